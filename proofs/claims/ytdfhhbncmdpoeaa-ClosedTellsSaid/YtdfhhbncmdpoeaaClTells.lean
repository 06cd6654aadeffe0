/- ClosedTells: whether any sets are closed, and whether any derivation is alone in them. -/
import Derived.Test.YtdfhhbncmdpoeaaClAwk
import Derived.Test.YtdfhhbncmdpoeaaClLrg
import Derived.Test.YtdfhhbncmdpoeaaClAln
import Derived.Test.YtdfhhbncmdpoeaaClRAln
import Derived.Test.YtdfhhbncmdpoeaaLitS
import Derived.Deep.RegionWith
namespace Go.Proofs.Ytdfhhbncmdpoeaa
open Go.RowKit

theorem bool_of (p : Prop) : ∃ b : Bool, b = true ↔ p := by
  by_cases h : p
  · exact ⟨true, fun _ => h, fun _ => rfl⟩
  · exact ⟨false, fun h2 => (by cases h2), fun h2 => (h h2).elim⟩
theorem bool_one {a b : Bool} {p : Prop} (ha : a = true ↔ p) (hb : b = true ↔ p) : a = b := by
  cases a <;> cases b
  · rfl
  · exact absurd (ha.2 (hb.1 rfl)) (by simp)
  · exact absurd (hb.2 (ha.1 rfl)) (by simp)
  · rfl
set_option maxRecDepth 100000 in
set_option maxHeartbeats 16000000 in
theorem closedTells_any (t n s : Int) (A : Option Addr) (len c : Nat) (ps : List Gr.Pr) (Aw : Option Addr) (lw cw : Nat) (xs : List Int) (As : Option Addr) (ls cs : Nat) (L : List (List Ix)) (Al : Option Addr) (ll cl : Nat) (l : List Int) (W : World) (hlen : len = ps.length) (hmax : len ≤ 9223372036854775807) (hr : PrsC W W.heap.size A ps)
    (hlw : lw = xs.length) (hcw : lw ≤ cw) (hrw : Rd W W.heap.size Aw (ins xs)) (hmw : lw ≤ 9223372036854775807) (hls : ls = L.length) (hms : ls ≤ 9223372036854775807) (hs : SetsX W W.heap.size As L) (hll : ll = l.length) (hrl : Rd W W.heap.size Al (ins l)) (hml : ll ≤ 9223372036854775807) :
    Calls Try.prog 3 #[.agg #[.int .i64 t, .int .i64 n, .int .i64 s, .slice A len c], .slice Aw lw cw, .slice As ls cs, .slice Al ll cl] W fun e w' => e = .returned (.bool true) ∧ Bl W w' := by
  have HB0 : Hid (Bl W (W.alloc (.cells #[.int .i64 t, .int .i64 n, .int .i64 s, .slice A len c] 24))) := (Bl.refl W).alloc _
  have HK0 := Lib.hid (Bk.new W 24 #[.int .i64 t, .int .i64 n, .int .i64 s, .slice A len c])
  have HL := Lib.hid hlen
  have HLw := Lib.hid hlw
  have HLs := Lib.hid hls
  have HLl := Lib.hid hll
  have HPc : Hid (∀ w', Bl W w' → PrsC w' w'.heap.size A ps) := fun _ hb => lprs_on hr hb
  have HXc : Hid (∀ w', Bl W w' → Rd w' w'.heap.size Aw (ins xs)) := fun _ hb => lrd_on hrw hb
  have HLc : Hid (∀ w', Bl W w' → Rd w' w'.heap.size Al (ins l)) := fun _ hb => lrd_on hrl hb
  have HSc : Hid (∀ w', Bl W w' → SetsX w' w'.heap.size As L) := fun _ hb => hs.on hb
  clear hlen hlw hls hll hr hrw hs hrl
  go_enter Try.func3, Try.ntmps3
  go_wp2_with fail
  refine (awake19_any _).mono ?_
  rintro e w1 ⟨rfl, hb1⟩
  have HB1 := Lib.hid (HB0.out.trans hb1)
  have HK1 := Lib.hid (HK0.out.bl hb1)
  clear hb1 HB0 HK0
  have k0 : w1.cell? ⟨W.heap.size, 0, none⟩ = some (.int .i64 t) := HK1.out.cell 0
  have k1 : w1.cell? ⟨W.heap.size, 1, none⟩ = some (.int .i64 n) := HK1.out.cell 1
  have k2 : w1.cell? ⟨W.heap.size, 2, none⟩ = some (.int .i64 s) := HK1.out.cell 2
  have k3 : w1.cell? ⟨W.heap.size, 3, none⟩ = some (.slice A len c) := HK1.out.cell 3
  have kl := HK1.out.lt
  go_wp2_with fail
  refine (large17_any t n s A len c ps Aw lw cw w1 w1.heap.size HL.out hmax (by omega) (HPc.out w1 HB1.out).prs (Nat.le_refl _)).mono ?_
  rintro e w2 ⟨rfl, hb2⟩
  have HB2 := Lib.hid (HB1.out.trans hb2)
  have HK2 := Lib.hid (HK1.out.bl hb2)
  clear hb2 HB1 HK1 k0 k1 k2 k3 kl
  cases hl : lg17 ps lw with
  | true =>
    go_wp2_with fail
    go_ret
    exact ⟨rfl, HB2.out⟩
  | false =>
  have hlw9 : lw ≤ 40 := by
    unfold lg17 at hl
    rw [Bool.or_eq_false_iff, decide_eq_false_iff_not] at hl
    omega
  clear hl
  go_wp2_with fail
  refine (large19_any As ls cs L w2 w2.heap.size HLs.out hms (HSc.out w2 HB2.out) (Nat.le_refl _)).mono ?_
  rintro e w3 ⟨rfl, hb3⟩
  have HB3 := Lib.hid (HB2.out.trans hb3)
  have HK3 := Lib.hid (HK2.out.bl hb3)
  clear hb3 HB2 HK2
  cases hg : lgS L with
  | true =>
    clear hg
    go_wp2_with fail
    go_ret
    exact ⟨rfl, HB3.out⟩
  | false =>
  have HLg := Lib.hid (lgS_no hg)
  clear hg
  by_cases h8 : 100 < ll
  · have d8 : decide ((100 : Int) < (ll : Int)) = true := decide_eq_true (by omega)
    clear h8
    go_wp2_with fail
    go_ret
    exact ⟨rfl, HB3.out⟩
  have d8 : decide ((100 : Int) < (ll : Int)) = false := decide_eq_false (by omega)
  have hls9 : L.length ≤ 100 := by have := HLg.out.1; omega
  have HM : Hid (∀ l ∈ L, l.length ≤ 2000) := fun l hl => by have := HLg.out.2 l hl; omega
  go_upto_region 5 with fail
  obtain ⟨bc, hbc⟩ := bool_of (ClosedP ⟨t, n, s, ps⟩ xs L)
  obtain ⟨ba, hba⟩ := bool_of (AloneP ⟨t, n, s, ps⟩ xs L l)
  have HC1 : Hid (∀ wx, Bl w3 wx → Calls Try.prog 8 #[.agg #[.int .i64 t, .int .i64 n, .int .i64 s, .slice A len c], .slice Aw lw cw, .slice As ls cs] wx fun e w' => e = .returned (.bool bc) ∧ Bl wx w') := fun wx hb =>
    (closed_any t n s A len c ps Aw lw cw xs As ls cs L wx wx.heap.size HL.out hmax (HPc.out wx (HB3.out.trans hb)).prs HLw.out hcw (HXc.out wx (HB3.out.trans hb)) HLs.out hls9 HM.out (HSc.out wx (HB3.out.trans hb)) (Nat.le_refl _)).mono (by
      rintro e w' ⟨b, rfl, hi, hb'⟩
      rw [bool_one hi hbc]
      exact ⟨rfl, hb'⟩)
  have HC2 : Hid (∀ wx, Bl w3 wx → Calls Try.prog 9 #[.agg #[.int .i64 t, .int .i64 n, .int .i64 s, .slice A len c], .slice Aw lw cw, .slice As ls cs] wx fun e w' => e = .returned (.bool bc) ∧ Bl wx w') := fun wx hb =>
    (rclosed_any t n s A len c ps Aw lw cw xs As ls cs L wx HL.out hmax (HPc.out wx (HB3.out.trans hb)).prs HLw.out (by omega) (HXc.out wx (HB3.out.trans hb)) HLs.out hls9 HM.out (HSc.out wx (HB3.out.trans hb))).mono (by
      rintro e w' ⟨b, rfl, hi, hb'⟩
      rw [bool_one hi hbc]
      exact ⟨rfl, hb'⟩)
  have HC3 : Hid (∀ wx, Bl w3 wx → Calls Try.prog 10 #[.agg #[.int .i64 t, .int .i64 n, .int .i64 s, .slice A len c], .slice Aw lw cw, .slice As ls cs, .slice Al ll cl] wx fun e w' => e = .returned (.bool ba) ∧ Bl wx w') := fun wx hb =>
    (alone_any t n s A len c ps Aw lw cw xs As ls cs L Al ll cl l wx wx.heap.size HL.out hmax (HPc.out wx (HB3.out.trans hb)) HLw.out hcw (HXc.out wx (HB3.out.trans hb)) HLs.out hls9 HM.out (HSc.out wx (HB3.out.trans hb)) HLl.out (by omega) (HLc.out wx (HB3.out.trans hb)) (Nat.le_refl _) (by omega)).mono (by
      rintro e w' ⟨b, rfl, hi, hb'⟩
      rw [bool_one hi hba]
      exact ⟨rfl, hb'⟩)
  have HC4 : Hid (∀ wx, Bl w3 wx → Calls Try.prog 11 #[.agg #[.int .i64 t, .int .i64 n, .int .i64 s, .slice A len c], .slice Aw lw cw, .slice As ls cs, .slice Al ll cl] wx fun e w' => e = .returned (.bool ba) ∧ Bl wx w') := fun wx hb =>
    (ralone_any t n s A len c ps Aw lw cw xs As ls cs L Al ll cl l wx HL.out hmax (HPc.out wx (HB3.out.trans hb)).prs HLw.out (by omega) (HXc.out wx (HB3.out.trans hb)) HLs.out hls9 HM.out (HSc.out wx (HB3.out.trans hb)) HLl.out (by omega) (HLc.out wx (HB3.out.trans hb))).mono (by
      rintro e w' ⟨b, rfl, hi, hb'⟩
      rw [bool_one hi hba]
      exact ⟨rfl, hb'⟩)
  have HX : Hid (∀ wx, Bl w3 wx → wx.cell? ⟨W.heap.size, 0, none⟩ = some (.int .i64 t) ∧ wx.cell? ⟨W.heap.size, 1, none⟩ = some (.int .i64 n) ∧ wx.cell? ⟨W.heap.size, 2, none⟩ = some (.int .i64 s) ∧ wx.cell? ⟨W.heap.size, 3, none⟩ = some (.slice A len c)) := fun wx hb => ⟨(HK3.out.bl hb).cell 0, (HK3.out.bl hb).cell 1, (HK3.out.bl hb).cell 2, (HK3.out.bl hb).cell 3⟩
  have HBd : Hid (Bl w3 w3.drew) := (Bl.refl w3).drew
  clear hbc hba d8 h8 hlw9
  have tk1 : True := trivial
  have tk2 : True := trivial
  have tk3 : True := trivial
  have tk4 : True := trivial
  cases bc <;> cases ba
  all_goals
    go_region_held3 (fun wx => wx.cell? ⟨W.heap.size, 0, none⟩ = some (.int .i64 t) ∧ wx.cell? ⟨W.heap.size, 1, none⟩ = some (.int .i64 n) ∧ wx.cell? ⟨W.heap.size, 2, none⟩ = some (.int .i64 s) ∧ wx.cell? ⟨W.heap.size, 3, none⟩ = some (.slice A len c)) (first | exact HX.out _ HBe4.out | exact HX.out _ HBe3.out | exact HX.out _ HBe2.out | exact HX.out _ HBe1.out | exact HX.out _ HBd.out) (first
      | (go_at_call 8; have _t := tk1; ((with_reducible refine (HC1.out _ HBd.out).mono ?_); rintro e v1 ⟨rfl, hb1⟩; have HBe1 : Hid (Bl w3 v1) := HBd.out.trans hb1; clear hb1; clear tk1))
      | (go_at_call 9; have _t := tk2; ((with_reducible refine (HC2.out _ HBe1.out).mono ?_); rintro e v2 ⟨rfl, hb1⟩; have HBe2 : Hid (Bl w3 v2) := HBe1.out.trans hb1; clear hb1; clear tk2))
      | (go_at_call 10; have _t := tk3; ((with_reducible refine (HC3.out _ HBe2.out).mono ?_); rintro e v3 ⟨rfl, hb1⟩; have HBe3 : Hid (Bl w3 v3) := HBe2.out.trans hb1; clear hb1; clear tk3))
      | (go_at_call 11; have _t := tk4; ((with_reducible refine (HC4.out _ HBe3.out).mono ?_); rintro e v4 ⟨rfl, hb1⟩; have HBe4 : Hid (Bl w3 v4) := HBe3.out.trans hb1; clear hb1; clear tk4)))
    go_wp2_with fail
    go_ret
    exact ⟨rfl, HB3.out.trans HBe4.out⟩
end Go.Proofs.Ytdfhhbncmdpoeaa
