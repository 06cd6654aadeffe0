/- TreeTells: the word and the nodes of any derivation, and which of two stands ahead, are as the document says. -/
import Derived.Test.YtmdepbgcgkifpaaTAwake
import Derived.Test.YtmdepbgcgkifpaaTRNodes
import Derived.Test.YtmdepbgcgkifpaaDOpI
import Derived.Test.YtmdepbgcgkifpaaKLarge
namespace Go.Proofs.Ytmdepbgcgkifpaa
open Go.RowKit

theorem nodes_same {ps : List Gr.Pr} {s : Int} {l : List Int} {x : Nat} {a b : List (Int × List Int)} (h1 : x ≠ 0 → a = []) (h2 : x = 0 → Dv.NodesOf ps s l a) (h3 : x ≠ 0 → b = [])
    (h4 : x = 0 → ∃ (m : List Nat) (wd : List Int) (e : Nat) (nds : List Al.No) (pl : List Nat), l = Dv.ints m ∧ Al.Nd ps wd m [⟨true, s⟩] 0 e nds pl ∧ b = nds.map ndOf ∧ ∀ y ∈ nds, y.at_.length ≤ 8) :
    a = b ∧ ∀ y ∈ b, y.2.length ≤ 9223372036854775807 := by
  by_cases hx : x = 0
  · obtain ⟨m, wd, e, nds, pl, e1, e2, e3, e4⟩ := h4 hx
    refine ⟨(h2 hx m wd e nds pl e1 e2).trans e3.symm, fun y hy => ?_⟩
    rw [e3] at hy
    obtain ⟨z, hz, rfl⟩ := List.mem_map.1 hy
    have := e4 z hz
    show (Dv.ints (z.at_ ++ [z.stop])).length ≤ _
    unfold Dv.ints
    rw [List.length_map, List.length_append, List.length_singleton]
    omega
  · rw [h1 hx, h3 hx]
    exact ⟨rfl, fun y hy => absurd hy (by simp)⟩
theorem own_max {w : World} {b : Nat} {e : TypeId} {A : Option Addr} {n c : Nat} {xs : List Value} (h : w.ownsRow b e 1 (.slice A n c) n xs) : n ≤ 9223372036854775807 := by
  rcases h.2 with ⟨_, h⟩ | ⟨_, _, _, _, _, _, h1, h2, _⟩
  · omega
  · simp only [maxLen] at h2
    omega

set_option maxRecDepth 100000 in
set_option maxHeartbeats 4000000 in
theorem treeTells_any (t n s : Int) (A : Option Addr) (len c : Nat) (ps : List Gr.Pr) (Al : Option Addr) (ll cl : Nat) (l : List Int) (Am : Option Addr) (lm cm : Nat) (m : List Int) (W : World) (hlen : len = ps.length) (hmax : len ≤ 9223372036854775807) (hr : PrsC W W.heap.size A ps)
    (hll : ll = l.length) (hrl : Rd W W.heap.size Al (ins l)) (hlm : lm = m.length) (hrm : Rd W W.heap.size Am (ins m)) :
    Calls Try.prog 3 #[.agg #[.int .i64 t, .int .i64 n, .int .i64 s, .slice A len c], .slice Al ll cl, .slice Am lm cm] W fun e w' => e = .returned (.bool true) ∧ Bl W w' := by
  have HL := Lib.hid hlen; clear hlen
  have HLL := Lib.hid hll; clear hll
  have HLM := Lib.hid hlm; clear hlm
  have HP := Lib.hid hr; clear hr
  have HF := Lib.hid hrl; clear hrl
  have HFm := Lib.hid hrm; clear hrm
  have hb0 : Bl W (W.alloc (.cells #[.int .i64 t, .int .i64 n, .int .i64 s, .slice A len c] 24)) := (Bl.refl W).alloc _
  have HB0 := Lib.hid hb0; clear hb0
  have HG0 : Hid (Bk (W.alloc (.cells #[.int .i64 t, .int .i64 n, .int .i64 s, .slice A len c] 24)) W.heap.size 24 #[.int .i64 t, .int .i64 n, .int .i64 s, .slice A len c]) := Bk.new W _ _
  go_enter Try.func3, Try.ntmps3
  go_wp2_with fail
  refine (awake15_any _).mono ?_
  rintro e w1 ⟨rfl, hb1⟩
  have HG1 := Lib.hid (HG0.out.bl hb1)
  have HB1 := Lib.hid (HB0.out.trans hb1)
  clear hb1 HG0 HB0
  have g0 := HG1.out.cell 0
  have g1 := HG1.out.cell 1
  have g2 := HG1.out.cell 2
  have g3 := HG1.out.cell 3
  go_wp2_with fail
  refine (large9_any t n s A len c ps w1 w1.heap.size HL.out hmax (prsC_on HP.out HB1.out).prs (Nat.le_refl _)).mono ?_
  rintro e w2 ⟨rfl, hb2⟩
  have HG2 := Lib.hid (HG1.out.bl hb2)
  have HB2 := Lib.hid (HB1.out.trans hb2)
  clear hb2 HG1 HB1 g0 g1 g2 g3
  cases hl : lgB ps with
  | true =>
    go_wp2_with fail
    go_ret
    exact ⟨rfl, HB2.out⟩
  | false =>
  clear hl
  have key : (200 < ll ∧ ll ≤ 2000) ∨ (200 < ll ∧ ¬ ll ≤ 2000 ∧ 2010 < ll) ∨ (200 < ll ∧ ¬ ll ≤ 2000 ∧ ¬ 2010 < ll ∧ 200 < lm) ∨ (¬ 200 < ll ∧ ¬ 2010 < ll ∧ 200 < lm) ∨ (200 < ll ∧ ¬ ll ≤ 2000 ∧ ¬ 2010 < ll ∧ ¬ 200 < lm) ∨ (¬ 200 < ll ∧ ¬ 2010 < ll ∧ ¬ 200 < lm) := by omega
  rcases key with ⟨k1, k2⟩ | ⟨k1, k2, k3⟩ | ⟨k1, k2, k3, k4⟩ | ⟨k1, k3, k4⟩ | hk | hk
  · have d1 : decide ((200 : Int) < (ll : Int)) = true := decide_eq_true (by omega)
    have d2 : decide ((ll : Int) ≤ (2000 : Int)) = true := decide_eq_true (by omega)
    go_wp2_with fail
    go_ret
    exact ⟨rfl, HB2.out⟩
  · have d1 : decide ((200 : Int) < (ll : Int)) = true := decide_eq_true (by omega)
    have d2 : decide ((ll : Int) ≤ (2000 : Int)) = false := decide_eq_false (by omega)
    have d3 : decide ((2010 : Int) < (ll : Int)) = true := decide_eq_true (by omega)
    go_wp2_with fail
    go_ret
    exact ⟨rfl, HB2.out⟩
  · have d1 : decide ((200 : Int) < (ll : Int)) = true := decide_eq_true (by omega)
    have d2 : decide ((ll : Int) ≤ (2000 : Int)) = false := decide_eq_false (by omega)
    have d3 : decide ((2010 : Int) < (ll : Int)) = false := decide_eq_false (by omega)
    have d4 : decide ((200 : Int) < (lm : Int)) = true := decide_eq_true (by omega)
    go_wp2_with fail
    go_ret
    exact ⟨rfl, HB2.out⟩
  · have d1 : decide ((200 : Int) < (ll : Int)) = false := decide_eq_false (by omega)
    have d3 : decide ((2010 : Int) < (ll : Int)) = false := decide_eq_false (by omega)
    have d4 : decide ((200 : Int) < (lm : Int)) = true := decide_eq_true (by omega)
    go_wp2_with fail
    go_ret
    exact ⟨rfl, HB2.out⟩
  all_goals
    have hll2 : ll ≤ 2010 := by omega
    have hlm2 : lm ≤ 200 := by omega
    have d3 : decide ((2010 : Int) < (ll : Int)) = false := decide_eq_false (by omega)
    have d4 : decide ((200 : Int) < (lm : Int)) = false := decide_eq_false (by omega)
    first
      | (have d1 : decide ((200 : Int) < (ll : Int)) = true := decide_eq_true (by omega)
         have d2 : decide ((ll : Int) ≤ (2000 : Int)) = false := decide_eq_false (by omega))
      | have d1 : decide ((200 : Int) < (ll : Int)) = false := decide_eq_false (by omega)
    clear hk
    have g0 := HG2.out.cell 0
    have g1 := HG2.out.cell 1
    have g2 := HG2.out.cell 2
    have g3 := HG2.out.cell 3
    go_wp2_with fail
    refine (replay_any t n s A len c ps Al ll cl l w2 w2.heap.size HL.out hmax (prsC_on HP.out HB2.out) (Nat.le_refl _) HLL.out (by omega) (rd_onb HF.out HB2.out)).mono ?_
    rintro e w3 ⟨A3, n3, c3, rfl, hn3, ho3, hb3⟩
    have HM3 := Lib.hid (own_max ho3)
    have HR3 := Lib.hid (Rd.own ho3)
    have HN3 := Lib.hid hn3
    have HG3 := Lib.hid (HG2.out.bl hb3)
    have HB3 := Lib.hid (HB2.out.trans hb3)
    clear hb3 hn3 ho3 HG2 HB2 g0 g1 g2 g3 d1 d3 d4
    have g0 := HG3.out.cell 0
    have g1 := HG3.out.cell 1
    have g2 := HG3.out.cell 2
    have g3 := HG3.out.cell 3
    go_wp2_with fail
    refine (treplay_any t n s A len c ps Al ll cl l w3 w3.heap.size HL.out hmax (prsC_on HP.out HB3.out).prs (Nat.le_refl _) HLL.out (by omega) (rd_onb HF.out HB3.out)).mono ?_
    rintro e w4 ⟨A4, n4, c4, rfl, hn4, ho4, hb4⟩
    have HR4 := Lib.hid (Rd.own ho4)
    have HN4 := Lib.hid hn4
    have HR34 := Lib.hid (rd_onb HR3.out hb4)
    have HG4 := Lib.hid (HG3.out.bl hb4)
    have HB4 := Lib.hid (HB3.out.trans hb4)
    clear hb4 hn4 ho4 HG3 HB3 HR3 g0 g1 g2 g3
    have g0 := HG4.out.cell 0
    have g1 := HG4.out.cell 1
    have g2 := HG4.out.cell 2
    have g3 := HG4.out.cell 3
    go_wp2_with fail
    refine (nodes_any t n s A len c ps Al ll cl l w4 w4.heap.size HL.out hmax (prsC_on HP.out HB4.out) (Nat.le_refl _) HLL.out (by omega) (rd_onb HF.out HB4.out)).mono ?_
    rintro e w5 ⟨nd5, hno5, hyes5, hle5, A5, n5, c5, rfl, hn5, hr5, hb5⟩
    have HX5 := Lib.hid hno5
    have HY5 := Lib.hid hyes5
    have HN5 := Lib.hid hn5
    have HR5 := Lib.hid hr5
    have HLe5 := Lib.hid hle5
    have HR35 := Lib.hid (rd_onb HR34.out hb5)
    have HR45 := Lib.hid (rd_onb HR4.out hb5)
    have HG5 := Lib.hid (HG4.out.bl hb5)
    have HB5 := Lib.hid (HB4.out.trans hb5)
    clear hb5 hn5 hr5 hno5 hyes5 hle5 HG4 HB4 HR34 HR4 g0 g1 g2 g3
    have g0 := HG5.out.cell 0
    have g1 := HG5.out.cell 1
    have g2 := HG5.out.cell 2
    have g3 := HG5.out.cell 3
    go_wp2_with fail
    refine (rnodes_any t n s A len c ps Al ll cl l w5 w5.heap.size HL.out hmax (prsC_on HP.out HB5.out).prs (Nat.le_refl _) HLL.out (by omega) (rd_onb HF.out HB5.out)).mono ?_
    rintro e w6 ⟨nd6, hno6, hyes6, A6, n6, c6, rfl, hn6, hr6, hb6⟩
    obtain ⟨hs, hsh⟩ := nodes_same HX5.out HY5.out hno6 hyes6
    subst hs
    have HSh := Lib.hid hsh
    have HN6 := Lib.hid hn6
    have HR6 := Lib.hid hr6
    have HR36 := Lib.hid (rd_onb HR35.out hb6)
    have HR46 := Lib.hid (rd_onb HR45.out hb6)
    have HR56 := Lib.hid (HR5.out.onb hb6)
    have HB6 := Lib.hid (HB5.out.trans hb6)
    clear hb6 hn6 hr6 hno6 hyes6 hsh HX5 HY5 HR5 HG5 HB5 HR35 HR45 g0 g1 g2 g3
    have HF6 := Lib.hid (rd_onb HF.out HB6.out)
    have HFm6 := Lib.hid (rd_onb HFm.out HB6.out)
    generalize (Dv.replayOf (okB ⟨t, n, s, ps⟩) ⟨t, n, s, ps⟩ l) = x at *
    obtain ⟨v, cd⟩ := x
    simp only at HN3 HN4 HR36 HR46
    have hq : (((cd : Nat) : Int) == (cd : Int)) = true := by simp
    have HQ := Lib.hid hq
    go_wp2_with fail
    refine (isame_any A3 A4 n3 n4 c3 c4 v v w6 w6.heap.size HN3.out HN4.out HM3.out HR36.out HR46.out).mono ?_
    rw [decide_eq_true (rfl : v = v)]
    rintro e w7 ⟨rfl, q7, rfl⟩
    have HB7 := Lib.hid (HB6.out.drewN q7)
    have HF7 : Hid (Rd (w6.drewN q7) (w6.drewN q7).heap.size Al (ins l)) := HF6.out
    have HFm7 : Hid (Rd (w6.drewN q7) (w6.drewN q7).heap.size Am (ins m)) := HFm6.out
    have HR57 : Hid (NRd (w6.drewN q7) (w6.drewN q7).heap.size A5 nd5) := HR56.out
    have HR67 : Hid (NRd (w6.drewN q7) (w6.drewN q7).heap.size A6 nd5) := HR6.out
    clear HF6 HFm6 HB6 HF HFm HP HR56 HR6 HR36 HR46
    generalize w6.drewN q7 = w7 at *
    generalize ((cd : Nat) : Int) = ce at *
    go_wp2_with fail
    refine (own_any A5 n5 c5 nd5 w7 w7.heap.size HN5.out (by have := HN5.out; have := HLe5.out; omega) HR57.out (Nat.le_refl _)).mono ?_
    rintro e w8 ⟨A8, n8, c8, rfl, hn8, hr8, hb8⟩
    have HN8 := Lib.hid hn8
    have HR8 := Lib.hid hr8
    have HR68 := Lib.hid (HR67.out.onb hb8)
    have HF8 := Lib.hid (rd_onb HF7.out hb8)
    have HFm8 := Lib.hid (rd_onb HFm7.out hb8)
    have HB8 := Lib.hid (HB7.out.trans hb8)
    clear hb8 hn8 hr8 HF7 HFm7 HB7 HR57 HR67
    go_wp2_with fail
    refine (nsame_any A8 A6 n8 n6 c8 c6 nd5 nd5 w8 w8.heap.size HN8.out HN6.out (by have := HN8.out; have := HLe5.out; omega) HSh.out HR8.out HR68.out).mono ?_
    rw [decide_eq_true (rfl : nd5 = nd5)]
    rintro e w9 ⟨rfl, q9, rfl⟩
    have HB9 := Lib.hid (HB8.out.drewN q9)
    have HF9 : Hid (Rd (w8.drewN q9) (w8.drewN q9).heap.size Al (ins l)) := HF8.out
    have HFm9 : Hid (Rd (w8.drewN q9) (w8.drewN q9).heap.size Am (ins m)) := HFm8.out
    clear HF8 HFm8 HB8 HR8 HR68
    generalize w8.drewN q9 = w9 at *
    go_wp2_with fail
    refine (less_any Al Am ll lm cl cm l m w9 _ HLL.out HLM.out (by omega) HF9.out HFm9.out).mono ?_
    rintro e w10 ⟨rfl, rfl⟩
    go_wp2_with fail
    refine (tless_any Al Am ll lm cl cm l m w10 _ HLL.out HLM.out (by omega) HF9.out HFm9.out).mono ?_
    rintro e w11 ⟨rfl, hb11⟩
    have HB11 := Lib.hid (HB9.out.trans hb11)
    clear hb11
    have hbq : (Dv.less l m == Dv.less l m) = true := by simp
    generalize Dv.less l m = y at *
    go_wp2_with fail
    go_ret
    exact ⟨by simp, HB11.out⟩
end Go.Proofs.Ytmdepbgcgkifpaa
