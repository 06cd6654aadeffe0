/- ChartTells: the sets of any word, what is next at any items, and where any word stops. -/
import Derived.Test.YtckckejgocbkkaaChRStop
import Derived.Test.YtckckejgocbkkaaChAwk
import Derived.Test.YtckckejgocbkkaaChF
import Derived.Test.YtckckejgocbkkaaLitS
import Derived.Deep.RegionHeld3
namespace Go.Proofs.Ytckckejgocbkkaa
open Go.RowKit

theorem sets_fewP {g : Gr.Gm} {xs : List Int} {L : List (List Ch.Im)} (hy : fitB g xs = true → Ch.IsSets g xs L) (hn : fitB g xs = false → L = []) : Few L := by
  cases hf : fitB g xs with
  | false => rw [hn hf]; exact ⟨by simp, fun b l h => by simp at h⟩
  | true =>
    obtain ⟨hok, _, h24⟩ := fit_good hf
    have hset := hy hf
    refine ⟨by have := hset.1; omega, fun b l hl => ?_⟩
    have := inc_few hok (hset.2 b l hl).1 (hset.2 b l hl).2 (by have := Ch.lt_of_get hl; have := hset.1; omega)
    omega
theorem sets_oneP {g : Gr.Gm} {xs : List Int} {L M : List (List Ch.Im)} (hy : fitB g xs = true → Ch.IsSets g xs L) (hn : fitB g xs = false → L = []) (ky : fitB g xs = true → Ch.IsSets g xs M) (kn : fitB g xs = false → M = []) : L = M := by
  cases hf : fitB g xs with
  | false => rw [hn hf, kn hf]
  | true => exact (hy hf).one (ky hf)

set_option maxRecDepth 100000 in
set_option maxHeartbeats 16000000 in
theorem chartTells_any (t n s : Int) (A : Option Addr) (len c : Nat) (ps : List Gr.Pr) (Al : Option Addr) (ll cl : Nat) (xs : List Int) (Ai : Option Addr) (li ci : Nat) (l : List Ix) (W : World) (hlen : len = ps.length) (hmax : len ≤ 9223372036854775807) (hr : PrsC W W.heap.size A ps)
    (hll : ll = xs.length) (hrl : Rd W W.heap.size Al (ins xs)) (hml : ll ≤ 9223372036854775807) (hli : li = l.length) (hri : Rd W W.heap.size Ai (ixRow l)) :
    Calls Try.prog 3 #[.agg #[.int .i64 t, .int .i64 n, .int .i64 s, .slice A len c], .slice Al ll cl, .slice Ai li ci] W fun e w' => e = .returned (.bool true) ∧ Bl W w' := by
  have HB0 : Hid (Bl W (W.alloc (.cells #[.int .i64 t, .int .i64 n, .int .i64 s, .slice A len c] 24))) := (Bl.refl W).alloc _
  have HK0 := Lib.hid (Bk.new W 24 #[.int .i64 t, .int .i64 n, .int .i64 s, .slice A len c])
  have HL := Lib.hid hlen
  have HLL := Lib.hid hll
  have HLi := Lib.hid hli
  have HPc : Hid (∀ w', Bl W w' → PrsC w' w'.heap.size A ps) := fun _ hb => lprs_on hr hb
  have HXc : Hid (∀ w', Bl W w' → Rd w' w'.heap.size Al (ins xs)) := fun _ hb => lrd_on hrl hb
  have HIc : Hid (∀ w', Bl W w' → Rd w' w'.heap.size Ai (ixRow l)) := fun _ hb => lrd_on hri hb
  clear hlen hll hr hrl hli hri
  go_enter Try.func3, Try.ntmps3
  go_wp2_with fail
  refine (awake18_any _).mono ?_
  rintro e w1 ⟨rfl, hb1⟩
  have HB1 := Lib.hid (HB0.out.trans hb1)
  have HK1 := Lib.hid (HK0.out.bl hb1)
  clear hb1 HB0 HK0
  have k0 : w1.cell? ⟨W.heap.size, 0, none⟩ = some (.int .i64 t) := HK1.out.cell 0
  have k1 : w1.cell? ⟨W.heap.size, 1, none⟩ = some (.int .i64 n) := HK1.out.cell 1
  have k2 : w1.cell? ⟨W.heap.size, 2, none⟩ = some (.int .i64 s) := HK1.out.cell 2
  have k3 : w1.cell? ⟨W.heap.size, 3, none⟩ = some (.slice A len c) := HK1.out.cell 3
  have kl := HK1.out.lt
  go_wp2_with fail
  refine (large17_any t n s A len c ps Al ll cl w1 w1.heap.size HL.out hmax hml (HPc.out w1 HB1.out).prs (Nat.le_refl _)).mono ?_
  rintro e w2 ⟨rfl, hb2⟩
  have HB2 := Lib.hid (HB1.out.trans hb2)
  have HK2 := Lib.hid (HK1.out.bl hb2)
  clear hb2 HB1 HK1 k0 k1 k2 k3 kl
  cases hl : lg17 ps ll with
  | true =>
    go_wp2_with fail
    go_ret
    exact ⟨rfl, HB2.out⟩
  | false =>
  clear hl
  by_cases h100 : 100 < li
  · have hi1 : (100 : Int) < (li : Int) := by omega
    go_wp2_with fail
    go_ret
    exact ⟨rfl, HB2.out⟩
  have hi1 : ¬ (100 : Int) < (li : Int) := by omega
  have hmi : li ≤ 1000000000 := by omega
  have k0 : w2.cell? ⟨W.heap.size, 0, none⟩ = some (.int .i64 t) := HK2.out.cell 0
  have k1 : w2.cell? ⟨W.heap.size, 1, none⟩ = some (.int .i64 n) := HK2.out.cell 1
  have k2 : w2.cell? ⟨W.heap.size, 2, none⟩ = some (.int .i64 s) := HK2.out.cell 2
  have k3 : w2.cell? ⟨W.heap.size, 3, none⟩ = some (.slice A len c) := HK2.out.cell 3
  have kl := HK2.out.lt
  go_wp2_with fail
  refine (cstop_any t n s A len c ps Al ll cl xs w2 w2.heap.size HL.out hmax (HPc.out w2 HB2.out) HLL.out hml (HXc.out w2 HB2.out) (Nat.le_refl _)).mono ?_
  rintro e w3 ⟨L3, hy3, hn3, rfl, hb3⟩
  have HB3 := Lib.hid (HB2.out.trans hb3)
  have HK3 := Lib.hid (HK2.out.bl hb3)
  have HSo : Hid (∀ L4, (fitB ⟨t, n, s, ps⟩ xs = true → Ch.IsSets ⟨t, n, s, ps⟩ xs L4) → (fitB ⟨t, n, s, ps⟩ xs = false → L4 = []) → stopFrom ⟨t, n, s, ps⟩ xs 0 L4 = stopFrom ⟨t, n, s, ps⟩ xs 0 L3) := fun L4 h4 k4 => by rw [sets_oneP h4 k4 hy3 hn3]
  have HRst := Lib.hid (rstop_any t n s A len c ps Al ll cl xs w3 w3.heap.size HL.out hmax (HPc.out w3 HB3.out) HLL.out hml (HXc.out w3 HB3.out) (Nat.le_refl _))
  have HCS := Lib.hid (fun (wx : World) (hb : Bl W wx) => csets_any t n s A len c ps Al ll cl xs wx wx.heap.size HL.out hmax (HPc.out wx hb) HLL.out hml (HXc.out wx hb) (Nat.le_refl _))
  have HRS := Lib.hid (fun (wx : World) (hb : Bl W wx) => rsets_any t n s A len c ps Al ll cl xs wx wx.heap.size HL.out hmax (HPc.out wx hb).prs HLL.out hml (HXc.out wx hb) (Nat.le_refl _))
  have HCN := Lib.hid (fun (wx : World) (hb : Bl W wx) => cnext_any t n s A len c ps Ai li ci l wx wx.heap.size HL.out hmax (HPc.out wx hb).prs HLi.out hmi (HIc.out wx hb) (Nat.le_refl _))
  have HRN := Lib.hid (fun (wx : World) (hb : Bl W wx) => rnext_any t n s A len c ps Ai li ci l wx wx.heap.size HL.out hmax (HPc.out wx hb).prs HLi.out hmi (HIc.out wx hb) (Nat.le_refl _))
  clear hb3 HB2 HK2 k0 k1 k2 k3 kl hy3 hn3
  generalize nxtN ⟨t, n, s, ps⟩ l = z at *
  generalize stopFrom ⟨t, n, s, ps⟩ xs 0 L3 = so at *
  have k0 : w3.cell? ⟨W.heap.size, 0, none⟩ = some (.int .i64 t) := HK3.out.cell 0
  have k1 : w3.cell? ⟨W.heap.size, 1, none⟩ = some (.int .i64 n) := HK3.out.cell 1
  have k2 : w3.cell? ⟨W.heap.size, 2, none⟩ = some (.int .i64 s) := HK3.out.cell 2
  have k3 : w3.cell? ⟨W.heap.size, 3, none⟩ = some (.slice A len c) := HK3.out.cell 3
  have kl := HK3.out.lt
  have ez : ((z : Int) == (z : Int)) = true := by simp
  have key : ∃ (a b : Int) (q : Bool), stopV so = .tuple #[.int .i64 a, .int .u32 b, .bool q] := by
    cases so with
    | none => exact ⟨0, 0, false, rfl⟩
    | some p => exact ⟨_, _, true, rfl⟩
  obtain ⟨a, b, q, hso⟩ := key
  have HSv := Lib.hid hso
  rw [hso]
  clear hso
  have ea : (a == a) = true := by simp
  have eb : (b == b) = true := by simp
  have eq : (q == q) = true := by simp
  go_wp2_with fail
  refine HRst.out.mono ?_
  rintro e w4 ⟨L4, hy4, hn4, rfl, hb4⟩
  have h4 := HSo.out L4 hy4 hn4
  rw [h4, HSv.out]
  have HB4 := Lib.hid (HB3.out.trans hb4)
  have HK4 := Lib.hid (HK3.out.bl hb4)
  clear hb4 hy4 hn4 h4 HSo HSv HRst HB3 HK3 k0 k1 k2 k3 kl
  have HPx : Hid (∀ wx, Bl w4 wx → wx.cell? ⟨W.heap.size, 0, none⟩ = some (.int .i64 t) ∧ wx.cell? ⟨W.heap.size, 1, none⟩ = some (.int .i64 n) ∧ wx.cell? ⟨W.heap.size, 2, none⟩ = some (.int .i64 s) ∧ wx.cell? ⟨W.heap.size, 3, none⟩ = some (.slice A len c)) := fun wx hb => by
    have h1 := HK4.out.bl hb
    exact ⟨h1.cell 0, h1.cell 1, h1.cell 2, h1.cell 3⟩
  have HBd : Hid (Bl w4 w4.drew) := (Bl.refl w4).drew
  have tk1 : True := trivial
  have tk2 : True := trivial
  have tk3 : True := trivial
  have tk4 : True := trivial
  have tk5 : True := trivial
  go_upto_region 7 with fail
  go_region_held3 (fun wx => wx.cell? ⟨W.heap.size, 0, none⟩ = some (.int .i64 t) ∧ wx.cell? ⟨W.heap.size, 1, none⟩ = some (.int .i64 n) ∧ wx.cell? ⟨W.heap.size, 2, none⟩ = some (.int .i64 s) ∧ wx.cell? ⟨W.heap.size, 3, none⟩ = some (.slice A len c))
    (first | exact HPx.out _ HBd.out | exact HPx.out _ HV1.out | exact HPx.out _ HV2.out | exact HPx.out _ HV3.out | exact HPx.out _ HV4.out | exact HPx.out _ HV5.out) (first
    | (go_at_call 11; have _t := tk1; ((with_reducible refine (HCS.out _ (HB4.out.trans HBd.out)).mono ?_); rintro e v1 ⟨A1, L1, c1, rfl, hc1, hs1, hb1, hy1, hn1⟩; have HV1 : Hid (Bl w4 v1) := HBd.out.trans hb1; have HS1 := Lib.hid hs1; have HY1 := Lib.hid hy1; have HN1 := Lib.hid hn1; clear tk1 hc1 hs1 hb1 hy1 hn1))
    | (go_at_call 12; have _t := tk2; ((with_reducible refine (HRS.out _ (HB4.out.trans HV1.out)).mono ?_); rintro e v2 ⟨A2, L2, c2, rfl, hc2, hs2, hb2, hy2, hn2⟩; have HV2 : Hid (Bl w4 v2) := HV1.out.trans hb2; have HSm := Lib.hid (csame_any A1 A2 L1.length L2.length c1 c2 L1 L2 v2 rfl rfl (HS1.out.bl hb2) hs2 (sets_fewP HY1.out HN1.out) (sets_fewP hy2 hn2)); have hL := sets_oneP HY1.out HN1.out hy2 hn2; rw [decide_eq_true hL] at HSm; clear tk2 hc2 hs2 hb2 hy2 hn2 hL))
    | (go_at_call 10; have _t := tk3; ((with_reducible refine HSm.out.mono ?_); rintro e v3 ⟨rfl, hb3⟩; have HV3 : Hid (Bl w4 v3) := HV2.out.trans hb3; clear tk3 hb3))
    | (go_at_call 13; have _t := tk4; ((with_reducible refine (HCN.out _ (HB4.out.trans HV3.out)).mono ?_); rintro e v4 ⟨rfl, hb4⟩; have HV4 : Hid (Bl w4 v4) := HV3.out.trans hb4; clear tk4 hb4))
    | (go_at_call 14; have _t := tk5; ((with_reducible refine (HRN.out _ (HB4.out.trans HV4.out)).mono ?_); rintro e v5 ⟨rfl, hb5⟩; have HV5 : Hid (Bl w4 v5) := HV4.out.trans hb5; clear tk5 hb5))
    | fail)
  all_goals
    go_wp2_with fail
    go_ret
    exact ⟨rfl, HB4.out.trans HV5.out⟩
end Go.Proofs.Ytckckejgocbkkaa
