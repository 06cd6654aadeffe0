/- WordTells' contract: what layer 4 tells is what the document says. -/
import Derived.Test.YtmegpmkjhbihaaaDAwake
import Derived.Deep.RegionHeld3
namespace Go.Proofs.Ytmegpmkjhbihaaa
open Go.RowKit

theorem readW_len (l : List Nat) : (ns (Wd.readW l).1).length ≤ 24 := by
  by_cases hf : Wr.fin (Wr.nums ⟨l, 0⟩ 24 15).2 = 0
  · rw [readW_ok hf, ns_len]; exact Wr.nums_len ⟨l, 0⟩ 24 15
  · rw [readW_no hf]; simp [ns]
theorem applied_len (xs : List Int) (es : List Wd.Ed) : (applied xs es).1.length ≤ 24 := by
  unfold applied
  split
  · split
    · split
      · assumption
      · simp
    · simp
  · simp
theorem wbOf_short (xs : List Int) : (wbOf xs).length ≤ 300 := by
  cases h : Wd.okW xs with
  | true =>
    rw [wbOf_ok h]
    have := wnums_len xs
    have := ((Wd.okW_iff xs).1 h).1
    omega
  | false => rw [wbOf_no h]; simp
theorem dright_bl (A : Option Addr) (len cap : Nat) (xs : List Int) (w : World) (B : Nat) (hlen : len = xs.length) (hmax : len ≤ 9223372036854775807) (hr : Rd w B A (ins xs)) :
    Calls Try.prog 13 #[.slice A len cap] w fun e w' => e = .returned (.bool (Wd.okW xs)) ∧ Bl w w' :=
  (dright_any A len cap xs w B hlen hmax hr).mono fun e w' ⟨he, hw⟩ => ⟨he, by subst hw; exact Bl.refl w⟩
theorem rdright_bl (A : Option Addr) (len cap : Nat) (xs : List Int) (w : World) (B : Nat) (hlen : len = xs.length) (hmax : len ≤ 9223372036854775807) (hr : Rd w B A (ins xs)) :
    Calls Try.prog 14 #[.slice A len cap] w fun e w' => e = .returned (.bool (Wd.okW xs)) ∧ Bl w w' :=
  (rdright_any A len cap xs w B hlen hmax hr).mono fun e w' ⟨he, hw⟩ => ⟨he, by subst hw; exact Bl.refl w⟩

set_option maxRecDepth 100000 in
set_option maxHeartbeats 8000000 in
theorem wordTells_any (t n s : Int) (Ag : Option Addr) (lg cg : Nat) (A : Option Addr) (len cap : Nat) (xs : List Int) (Ab : Option Addr) (lb cb : Nat) (bs : List Nat) (Al : Option Addr) (ll cl : Nat) (es : List Wd.Ed) (size : Int) (W : World)
    (hlen : len = xs.length) (hcap : len ≤ cap) (hmax : cap ≤ 9223372036854775807) (hr : Rd W W.heap.size A (ins xs))
    (hlb : lb = bs.length) (hcb : lb ≤ cb) (hmb : cb ≤ 9223372036854775807) (hrb : Rd W W.heap.size Ab (bys bs)) (hby : ∀ c ∈ bs, c < 256)
    (hll : ll = es.length) (hml : ll ≤ 9223372036854775807) (hrl : Rd W W.heap.size Al (edRow es)) (hsz : size ≤ 9223372036854775807) :
    Calls Try.prog 3 #[.agg #[.int .i64 t, .int .i64 n, .int .i64 s, .slice Ag lg cg], .slice A len cap, .slice Ab lb cb, .slice Al ll cl, .int .i64 size] W fun e w' => e = .returned (.bool true) ∧ Bl W w' := by
  have HL := Lib.hid hlen; clear hlen
  have HR : Hid (∀ w', Bl W w' → Rd w' w'.heap.size A (ins xs)) := fun _ hb => rd_far hr hb
  clear hr
  have HLb := Lib.hid hlb; clear hlb
  have HRb : Hid (∀ w', Bl W w' → Rd w' w'.heap.size Ab (bys bs)) := fun _ hb => rd_far hrb hb
  clear hrb
  have HY := Lib.hid hby; clear hby
  have HLL := Lib.hid hll; clear hll
  have HRL : Hid (∀ w', Bl W w' → Rd w' w'.heap.size Al (edRow es)) := fun _ hb => rd_far hrl hb
  clear hrl
  have HB0 : Hid (Bl W (W.alloc (.cells #[.int .i64 t, .int .i64 n, .int .i64 s, .slice Ag lg cg] 24))) := (Bl.refl W).alloc _
  have HK0 := Lib.hid (Bk.new W 24 #[.int .i64 t, .int .i64 n, .int .i64 s, .slice Ag lg cg])
  go_enter Try.func3, Try.ntmps3
  go_wp2_with fail
  refine (dawake_any _).mono ?_
  rintro e w1 ⟨rfl, hb1⟩
  have HB1 := Lib.hid (HB0.out.trans hb1)
  have HK1 := Lib.hid (HK0.out.bl hb1)
  clear hb1 HB0 HK0
  by_cases h1 : 60 < len
  · go_wp2_with fail
    go_ret
    exact ⟨rfl, HB1.out⟩
  by_cases h2 : 300 < lb
  · go_wp2_with fail
    go_ret
    exact ⟨rfl, HB1.out⟩
  by_cases h3 : 60 < ll
  · go_wp2_with fail
    go_ret
    exact ⟨rfl, HB1.out⟩
  have hwl := wbOf_short xs
  go_wp2_with fail
  refine (dbytes_any A len cap xs _ w1.heap.size HL.out (by omega) (HR.out _ HB1.out) (Nat.le_refl _)).mono ?_
  intro e w2 h2
  obtain ⟨A2, c2, rfl, hc2, hr2, hb2⟩ := h2.lit (n := (wbOf xs).length) rfl rfl rfl
  have HB2 := Lib.hid (HB1.out.trans hb2)
  have HK2 := Lib.hid (HK1.out.bl hb2)
  have HX2 := Lib.hid hr2
  clear h2 hr2 hb2 HB1 HK1
  go_wp2_with fail
  refine (rdbytes_any A len cap xs _ w2.heap.size HL.out (by omega) (HR.out _ HB2.out) (Nat.le_refl _)).mono ?_
  intro e w3 h3
  obtain ⟨A3, c3, rfl, hc3, hr3, hb3⟩ := h3.lit (n := (wbOf xs).length) rfl rfl rfl
  have HB3 := Lib.hid (HB2.out.trans hb3)
  have HK3 := Lib.hid (HK2.out.bl hb3)
  have HX3 := Lib.hid (rd_far HX2.out hb3)
  have HY3 := Lib.hid hr3
  clear h3 hr3 hb3 HB2 HK2 HX2
  go_wp2_with fail
  refine (dread_any Ab lb cb bs _ w3.heap.size HLb.out (by omega) (HRb.out _ HB3.out) HY.out).mono ?_
  have HRR : Hid (∀ w' : World, Bl W w' → Calls Try.prog 10 #[.slice Ab lb cb] w' (IWPost (ns (Wd.readW bs).1) (Wd.readW bs).2 w')) := fun w' hb => rdread_any Ab lb cb bs w' w'.heap.size HLb.out hcb hmb (HRb.out w' hb) (Nat.le_refl _) HY.out
  have hdl := readW_len bs
  generalize ns (Wd.readW bs).1 = D1 at *
  generalize (Wd.readW bs).2 = D2 at *
  intro e w4 h4
  obtain ⟨A4, c4, rfl, hc4, hr4, hb4⟩ := h4.lit rfl
  have HB4 := Lib.hid (HB3.out.trans hb4)
  have HK4 := Lib.hid (HK3.out.bl hb4)
  have HX4 := Lib.hid (rd_far HX3.out hb4)
  have HY4 := Lib.hid (rd_far HY3.out hb4)
  have HM4 := Lib.hid hr4
  clear h4 hr4 hb4 HB3 HK3 HX3 HY3
  go_wp2_with fail
  refine (HRR.out _ HB4.out).mono ?_
  intro e w5 h5
  obtain ⟨A5, c5, rfl, hc5, hr5, hb5⟩ := h5.lit rfl
  have HB5 := Lib.hid (HB4.out.trans hb5)
  have HK5 := Lib.hid (HK4.out.bl hb5)
  have HX5 := Lib.hid (rd_far HX4.out hb5)
  have HY5 := Lib.hid (rd_far HY4.out hb5)
  have HM5 := Lib.hid (rd_far HM4.out hb5)
  have HN5 := Lib.hid hr5
  clear h5 hr5 hb5 HB4 HK4 HX4 HY4 HM4 HRR
  go_wp2_with fail
  refine (apply_any A len cap xs Al ll cl es _ w5.heap.size HL.out hcap hmax (HR.out _ HB5.out) HLL.out (by omega) (HRL.out _ HB5.out) (Nat.le_refl _)).mono ?_
  have HRA : Hid (∀ w' : World, Bl W w' → Calls Try.prog 12 #[.slice A len cap, .slice Al ll cl] w' (IWPost (applied xs es).1 (applied xs es).2 w')) := fun w' hb => rapply_any A len cap xs Al ll cl es w' w'.heap.size HL.out hcap hmax (HR.out w' hb) HLL.out (by omega) (HRL.out w' hb) (Nat.le_refl _)
  have hel := applied_len xs es
  generalize (applied xs es).1 = E1 at *
  generalize (applied xs es).2 = E2 at *
  intro e w6 h6
  obtain ⟨A6, c6, rfl, hc6, hr6, hb6⟩ := h6.lit rfl
  have HB6 := Lib.hid (HB5.out.trans hb6)
  have HK6 := Lib.hid (HK5.out.bl hb6)
  have HX6 := Lib.hid (rd_far HX5.out hb6)
  have HY6 := Lib.hid (rd_far HY5.out hb6)
  have HM6 := Lib.hid (rd_far HM5.out hb6)
  have HN6 := Lib.hid (rd_far HN5.out hb6)
  have HU6 := Lib.hid hr6
  clear h6 hr6 hb6 HB5 HK5 HX5 HY5 HM5 HN5
  go_wp2_with fail
  refine (HRA.out _ HB6.out).mono ?_
  intro e w8 h8
  obtain ⟨A7, c7, rfl, hc7, hr8, hb8⟩ := h8.lit rfl
  have HBw := Lib.hid (HB6.out.trans hb8)
  have HKc := Lib.hid (HK6.out.bl hb8)
  have HXx : Hid (∀ w' : World, Bl w8 w' → Rd w' w'.heap.size A2 (bys (wbOf xs))) := fun w' hb => rd_far (rd_far HX6.out hb8) hb
  have HYy : Hid (∀ w' : World, Bl w8 w' → Rd w' w'.heap.size A3 (bys (wbOf xs))) := fun w' hb => rd_far (rd_far HY6.out hb8) hb
  have HMm : Hid (∀ w' : World, Bl w8 w' → Rd w' w'.heap.size A4 (ins D1)) := fun w' hb => rd_far (rd_far HM6.out hb8) hb
  have HNn : Hid (∀ w' : World, Bl w8 w' → Rd w' w'.heap.size A5 (ins D1)) := fun w' hb => rd_far (rd_far HN6.out hb8) hb
  have HUu : Hid (∀ w' : World, Bl w8 w' → Rd w' w'.heap.size A6 (ins E1)) := fun w' hb => rd_far (rd_far HU6.out hb8) hb
  have HVv : Hid (∀ w' : World, Bl w8 w' → Rd w' w'.heap.size A7 (ins E1)) := fun w' hb => rd_far hr8 hb
  have HWw : Hid (∀ w' : World, Bl w8 w' → Rd w' w'.heap.size A (ins xs)) := fun w' hb => HR.out w' (HBw.out.trans hb)
  have HEe : Hid (∀ w' : World, Bl w8 w' → Rd w' w'.heap.size Al (edRow es)) := fun w' hb => HRL.out w' (HBw.out.trans hb)
  have HBc := Lib.hid (Bl.refl w8)
  clear h8 hr8 hb8 HB6 HK6 HX6 HY6 HM6 HN6 HU6 HRA
  have hlm : len ≤ 9223372036854775807 := by omega
  have tk1 : True := trivial
  have tk2 : True := trivial
  have tk3 : True := trivial
  have tk4 : True := trivial
  have tk5 : True := trivial
  have tk6 : True := trivial
  have tk7 : True := trivial
  have tk8 : True := trivial
  have tk9 : True := trivial
  go_wp2_with fail
  go_region_held3 (fun w' => w'.cell? ⟨W.heap.size, 0, none⟩ = some (.int .i64 t) ∧ w'.cell? ⟨W.heap.size, 1, none⟩ = some (.int .i64 n) ∧ w'.cell? ⟨W.heap.size, 2, none⟩ = some (.int .i64 s) ∧ w'.cell? ⟨W.heap.size, 3, none⟩ = some (.slice Ag lg cg)) (exact ⟨HKc.out.cell 0, HKc.out.cell 1, HKc.out.cell 2, HKc.out.cell 3⟩) (first
    | (go_at_call 13; have _t := tk1; ((with_reducible refine (dright_bl A len cap xs _ w8.heap.size HL.out hlm (HWw.out w8 (Bl.refl w8)).drew).mono ?_); rintro e v1 ⟨rfl, hb1⟩; have HKc := Lib.hid (HKc.out.bl (Bl.undrew hb1)); have HBc := Lib.hid (HBc.out.trans (Bl.undrew hb1)); clear tk1 hb1))
    | (go_at_call 14; have _t := tk2; ((with_reducible refine (rdright_bl A len cap xs _ v1.heap.size HL.out hlm (HWw.out v1 HBc.out)).mono ?_); rintro e v2 ⟨rfl, hb2⟩; have HKc := Lib.hid (HKc.out.bl hb2); have HBc := Lib.hid (HBc.out.trans hb2); clear tk2 hb2))
    | (go_at_call 15; have _t := tk3; ((with_reducible refine (dfits_any t n s Ag lg cg A len cap xs _ v2.heap.size HL.out hlm (HWw.out v2 HBc.out) (Nat.le_refl _)).mono ?_); rintro e v3 ⟨rfl, hb3⟩; have HKc := Lib.hid (HKc.out.bl hb3); have HBc := Lib.hid (HBc.out.trans hb3); clear tk3 hb3))
    | (go_at_call 16; have _t := tk4; ((with_reducible refine (rdfits_any t n s Ag lg cg A len cap xs _ v3.heap.size HL.out hlm (HWw.out v3 HBc.out) (Nat.le_refl _)).mono ?_); rintro e v4 ⟨rfl, hb4⟩; have HKc := Lib.hid (HKc.out.bl hb4); have HBc := Lib.hid (HBc.out.trans hb4); clear tk4 hb4))
    | (go_at_call 17; have _t := tk5; ((with_reducible refine (dsame_bl A2 A3 _ _ c2 c3 (wbOf xs) (wbOf xs) _ v4.heap.size rfl rfl (by omega) (HXx.out v4 HBc.out) (HYy.out v4 HBc.out)).mono ?_); rintro e v5 ⟨rfl, hb5⟩; rw [decide_eq_true rfl]; have HKc := Lib.hid (HKc.out.bl hb5); have HBc := Lib.hid (HBc.out.trans hb5); clear tk5 hb5))
    | (go_at_call 18; have _t := tk6; ((with_reducible refine (disame_bl A4 A5 _ _ c4 c5 D1 D1 _ v5.heap.size rfl rfl (by omega) (HMm.out v5 HBc.out) (HNn.out v5 HBc.out)).mono ?_); rintro e v6 ⟨rfl, hb6⟩; rw [decide_eq_true rfl]; have HKc := Lib.hid (HKc.out.bl hb6); have HBc := Lib.hid (HBc.out.trans hb6); clear tk6 hb6))
    | (go_at_call 19; have _t := tk7; ((with_reducible refine (may_any Al ll cl es size _ v6.heap.size HLL.out hml hsz (HEe.out v6 HBc.out) (Nat.le_refl _)).mono ?_); rintro e v7 ⟨rfl, hb7⟩; have HKc := Lib.hid (HKc.out.bl hb7); have HBc := Lib.hid (HBc.out.trans hb7); clear tk7 hb7))
    | (go_at_call 20; have _t := tk8; ((with_reducible refine (rmay_any Al ll cl es size _ v7.heap.size HLL.out hml (HEe.out v7 HBc.out)).mono ?_); rintro e v8 ⟨rfl, hb8⟩; have HKc := Lib.hid (HKc.out.bl hb8); have HBc := Lib.hid (HBc.out.trans hb8); clear tk8 hb8))
    | (go_at_call 18; have _t := tk9; ((with_reducible refine (disame_bl A6 A7 _ _ c6 c7 E1 E1 _ v8.heap.size rfl rfl (by omega) (HUu.out v8 HBc.out) (HVv.out v8 HBc.out)).mono ?_); rintro e v9 ⟨rfl, hb9⟩; rw [decide_eq_true rfl]; have HKc := Lib.hid (HKc.out.bl hb9); have HBc := Lib.hid (HBc.out.trans hb9); clear tk9 hb9)))
  go_wp2_with fail
  go_ret
  exact ⟨rfl, HBw.out.trans HBc.out⟩
end Go.Proofs.Ytmegpmkjhbihaaa
