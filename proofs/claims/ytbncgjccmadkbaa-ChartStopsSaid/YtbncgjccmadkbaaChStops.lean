/- ChartStops: a word comes just if it stops nowhere; what is told where it stops. -/
import Derived.Test.YtbncgjccmadkbaaChAwk
import Derived.Test.YtbncgjccmadkbaaChF
import Derived.Test.YtbncgjccmadkbaaInL
import Derived.Test.YtbncgjccmadkbaaOpW
import Derived.Test.YtbncgjccmadkbaaSpansS
import Derived.Test.YtbncgjccmadkbaaFoApp
import Derived.Deep.RegionHeld3
namespace Go.Proofs.Ytbncgjccmadkbaa
open Go.RowKit

theorem rd_drewC {w : World} {B : Nat} {A : Option Addr} {xs : List Value} (h : Rd w B A xs) : Rd w.drew B A xs := h
theorem ch_int_size : (Try.prog.info? 3).map (·.size) = some 1 := by kernel_rfl
theorem own_emptyC (w : World) (o : Obj) (base : Nat) (e : TypeId) (h : base ≤ w.heap.size) : ((w.alloc o).alloc (.cells #[] e)).ownsRow base e 1 (.slice (some ⟨w.heap.size + 1, 0, none⟩) 0 0) 0 [] := by
  have h1 := own_empty (w.alloc o) base e (by rw [World.size_alloc]; omega)
  rwa [World.size_alloc] at h1
theorem ins_oneC (l : List Int) : ∀ u ∈ ins l, u.oneCell' = true := by
  intro u hu
  unfold ins at hu
  obtain ⟨x, _, rfl⟩ := List.mem_map.1 hu
  rfl
theorem rd_blockC {w : World} {t g : Nat} {x : Int} (h : Bk w g t #[.int .i64 x]) : Rd w w.heap.size (some ⟨g, 0, none⟩) (ins [x]) := fun _ => ⟨g, 0, rfl, h.lt, fun j u hu => by
  rw [h.cell, Nat.zero_add]
  cases j with
  | zero => exact hu
  | succ j => exact absurd hu (by simp [ins])⟩
theorem ins_snocC {w : World} {B : Nat} {A : Option Addr} {u : List Int} {x : Int} (h : Rd w B A (ins u ++ ins [x])) : Rd w B A (ins (u ++ [x])) := by
  have e : ins (u ++ [x]) = ins u ++ ins [x] := by unfold ins; rw [List.map_append]
  rw [e]; exact h
theorem ins_takeC {w : World} {B : Nat} {A : Option Addr} {l : List Int} (h : Rd w B A (ins l)) (k : Nat) : Rd w B A (ins (l.take k)) := by
  have h1 := h.take k
  unfold ins at h1 ⊢
  rwa [List.map_take]
theorem may_zero {g : Gr.Gm} {u : List Int} {s : Int} : Ld.mayB 0 g u [⟨true, s⟩] 0 = true ↔ Cf.Cm g [⟨true, s⟩] u := by
  rw [Ld.mayB_iff, Ld.may_one (by decide), List.drop_zero]
theorem may_goes {g : Gr.Gm} {u : List Int} {s : Int} : Ld.mayB 2 g u [⟨true, s⟩] 0 = true ↔ ∃ v, Cf.Cm g [⟨true, s⟩] (u ++ v) := by
  rw [Ld.mayB_iff, Ld.may_two, List.drop_zero]

set_option maxRecDepth 100000 in
set_option maxHeartbeats 16000000 in
theorem chartStops_any (t n s : Int) (A : Option Addr) (len c : Nat) (ps : List Gr.Pr) (Al : Option Addr) (ll cl : Nat) (xs : List Int) (W : World) (hlen : len = ps.length) (hmax : len ≤ 9223372036854775807) (hr : PrsC W W.heap.size A ps)
    (hll : ll = xs.length) (hrl : Rd W W.heap.size Al (ins xs)) (hcl : ll ≤ cl) (hml : ll ≤ 9223372036854775807) :
    Calls Try.prog 4 #[.agg #[.int .i64 t, .int .i64 n, .int .i64 s, .slice A len c], .slice Al ll cl] W fun e w' => e = .returned (.bool true) ∧ Bl W w' := by
  have HB0 : Hid (Bl W (W.alloc (.cells #[.int .i64 t, .int .i64 n, .int .i64 s, .slice A len c] 24))) := (Bl.refl W).alloc _
  have HK0 := Lib.hid (Bk.new W 24 #[.int .i64 t, .int .i64 n, .int .i64 s, .slice A len c])
  have HL := Lib.hid hlen
  have HLL := Lib.hid hll
  have HPc : Hid (∀ w', Bl W w' → PrsC w' w'.heap.size A ps) := fun _ hb => lprs_on hr hb
  have HXc : Hid (∀ w', Bl W w' → Rd w' w'.heap.size Al (ins xs)) := fun _ hb => lrd_on hrl hb
  clear hlen hll hr hrl
  go_enter Try.func4, Try.ntmps4
  go_wp2_with fail
  refine (awake18_any _).mono ?_
  rintro e w1 ⟨rfl, hb1⟩
  have HB1 := Lib.hid (HB0.out.trans hb1)
  have HK1 := Lib.hid (HK0.out.bl hb1)
  clear hb1 HB0 HK0
  have k0 : w1.cell? ⟨W.heap.size, 0, none⟩ = some (.int .i64 t) := HK1.out.cell 0
  have k1 : w1.cell? ⟨W.heap.size, 1, none⟩ = some (.int .i64 n) := HK1.out.cell 1
  have k2 : w1.cell? ⟨W.heap.size, 2, none⟩ = some (.int .i64 s) := HK1.out.cell 2
  have k3 : w1.cell? ⟨W.heap.size, 3, none⟩ = some (.slice A len c) := HK1.out.cell 3
  have kl := HK1.out.lt
  go_wp2_with fail
  refine (large17_any t n s A len c ps Al ll cl w1 w1.heap.size HL.out hmax hml (HPc.out w1 HB1.out).prs (Nat.le_refl _)).mono ?_
  rintro e w2 ⟨rfl, hb2⟩
  have HB2 := Lib.hid (HB1.out.trans hb2)
  have HK2 := Lib.hid (HK1.out.bl hb2)
  clear hb2 HB1 HK1 k0 k1 k2 k3 kl
  cases hl : lg17 ps ll with
  | true =>
    go_wp2_with fail
    go_ret
    exact ⟨rfl, HB2.out⟩
  | false =>
  have hl40 : ll ≤ 8 ∨ 24 < ll := by
    unfold lg17 at hl
    simp only [Bool.or_eq_false_iff, Bool.and_eq_false_iff, decide_eq_false_iff_not] at hl
    omega
  clear hl
  have k0 : w2.cell? ⟨W.heap.size, 0, none⟩ = some (.int .i64 t) := HK2.out.cell 0
  have k1 : w2.cell? ⟨W.heap.size, 1, none⟩ = some (.int .i64 n) := HK2.out.cell 1
  have k2 : w2.cell? ⟨W.heap.size, 2, none⟩ = some (.int .i64 s) := HK2.out.cell 2
  have k3 : w2.cell? ⟨W.heap.size, 3, none⟩ = some (.slice A len c) := HK2.out.cell 3
  have kl := HK2.out.lt
  go_wp2_with fail
  refine (rfit_any t n s A len c ps Al ll cl xs w2 w2.heap.size HL.out hmax (HPc.out w2 HB2.out).prs HLL.out hml (HXc.out w2 HB2.out) (Nat.le_refl _)).mono ?_
  rintro e w3 ⟨rfl, hb3⟩
  have HB3 := Lib.hid (HB2.out.trans hb3)
  have HK3 := Lib.hid (HK2.out.bl hb3)
  clear hb3 HB2 HK2 k0 k1 k2 k3 kl
  cases hf : fitB ⟨t, n, s, ps⟩ xs with
  | false =>
    clear hf
    go_wp2_with fail
    go_ret
    exact ⟨rfl, HB3.out⟩
  | true =>
  have hl8 : ll ≤ 8 := by have h := (fit_good hf).2.2; have := HLL.out; omega
  have HF := Lib.hid hf
  have hok := (fit_good hf).1
  obtain ⟨tN, rfl, ht16⟩ : ∃ tN : Nat, t = (tN : Int) ∧ tN ≤ 16 := ⟨t.toNat, by have := hok.1; have h2 := hok.2.1; simp only at this h2; omega, by have h2 := hok.2.1; simp only at h2; omega⟩
  have hpos : 0 < len := by have h := fit_pos hok (fit_good hf).2.1; have h2 := HL.out; rw [h2]; exact h
  have HOk := Lib.hid hok
  clear hf hok hl40
  have k0 : w3.cell? ⟨W.heap.size, 0, none⟩ = some (.int .i64 (tN : Int)) := HK3.out.cell 0
  have k1 : w3.cell? ⟨W.heap.size, 1, none⟩ = some (.int .i64 n) := HK3.out.cell 1
  have k2 : w3.cell? ⟨W.heap.size, 2, none⟩ = some (.int .i64 s) := HK3.out.cell 2
  have k3 : w3.cell? ⟨W.heap.size, 3, none⟩ = some (.slice A len c) := HK3.out.cell 3
  have kl := HK3.out.lt
  go_wp2_with fail
  refine (cstop_any (tN : Int) n s A len c ps Al ll cl xs w3 w3.heap.size HL.out hmax (HPc.out w3 HB3.out) HLL.out hml (HXc.out w3 HB3.out) (Nat.le_refl _)).mono ?_
  rintro e w4 ⟨L, hy, hn, rfl, hb4⟩
  have HIs := Lib.hid (hy HF.out)
  have HB4 := Lib.hid (HB3.out.trans hb4)
  have HK4 := Lib.hid (HK3.out.bl hb4)
  clear hb4 hy hn HB3 HK3 k0 k1 k2 k3 kl
  have k0 : w4.cell? ⟨W.heap.size, 0, none⟩ = some (.int .i64 (tN : Int)) := HK4.out.cell 0
  have k1 : w4.cell? ⟨W.heap.size, 1, none⟩ = some (.int .i64 n) := HK4.out.cell 1
  have k2 : w4.cell? ⟨W.heap.size, 2, none⟩ = some (.int .i64 s) := HK4.out.cell 2
  have k3 : w4.cell? ⟨W.heap.size, 3, none⟩ = some (.slice A len c) := HK4.out.cell 3
  have kl := HK4.out.lt
  have HIn := Lib.hid (in8_any (tN : Int) n s A len c ps Al ll cl xs w4 w4.heap.size HL.out (HPc.out w4 HB4.out).prs HLL.out (HXc.out w4 HB4.out) (Nat.le_refl _) HF.out)
  cases hst : stopFrom ⟨(tN : Int), n, s, ps⟩ xs 0 L with
  | none =>
    have hc := stops_none HF.out HIs.out hst
    rw [may_zero.2 hc] at HIn
    clear hc hst
    rw [show stopV none = .tuple #[.int .i64 0, .int .u32 0, .bool false] from rfl]
    go_wp2_with fail
    refine HIn.out.mono ?_
    rintro e w5 ⟨rfl, hb5⟩
    have HB5 := Lib.hid (HB4.out.trans hb5)
    clear hb5 k0 k1 k2 k3 kl
    go_wp2_with fail
    go_ret
    exact ⟨rfl, HB5.out⟩
  | some az =>
  obtain ⟨a, z⟩ := az
  have HA := Lib.hid (stops_some HF.out HIs.out hst)
  have ha : a ≤ ll := by have h := HA.out.le; have := HLL.out; omega
  have HM0 : Hid (Ld.mayB 0 ⟨(tN : Int), n, s, ps⟩ xs [⟨true, s⟩] 0 = false) := by
    show _ = false
    rw [Bool.eq_false_iff]; intro e; exact HA.out.no (may_zero.1 e)
  have HM1 : Hid (Ld.mayB 2 ⟨(tN : Int), n, s, ps⟩ (xs.take a) [⟨true, s⟩] 0 = true) := may_goes.2 HA.out.begins
  have HM2 : Hid (a < ll → Ld.mayB 2 ⟨(tN : Int), n, s, ps⟩ (xs.take (a + 1)) [⟨true, s⟩] 0 = false) := fun h => by
    rw [Bool.eq_false_iff]; intro e; exact HA.out.further (by have := HLL.out; omega) (may_goes.1 e)
  have HM3 : Hid (∀ m : Nat, m < tN → Ld.mayB 2 ⟨(tN : Int), n, s, ps⟩ (xs.take a ++ [(m : Int)]) [⟨true, s⟩] 0 = z.testBit m) := fun m hm => by
    rw [Bool.eq_iff_iff, may_goes, HA.out.tok m (by omega)]
    simp only [List.append_assoc, List.singleton_append]
  have HM4 : Hid (Ld.mayB 0 ⟨(tN : Int), n, s, ps⟩ (xs.take a) [⟨true, s⟩] 0 = z.testBit 16) := by
    show _ = _
    rw [Bool.eq_iff_iff, may_zero, HA.out.end_]
  have HM5 : Hid (bits .andNot .u32 ((z / 2 ^ tN : Nat) : Int) ((2 ^ (16 - tN) : Nat) : Int) = 0) := hi_none HA.out.lt ht16 HA.out.hi
  have hz := HA.out.lt
  have HFa : Hid (fitB ⟨(tN : Int), n, s, ps⟩ (xs.take a) = true) := fit_sub HF.out (by rw [List.length_take]; omega) fun y hy => fit_mem HF.out y (List.mem_of_mem_take hy)
  have HFb : Hid (fitB ⟨(tN : Int), n, s, ps⟩ (xs.take (a + 1)) = true) := fit_sub HF.out (by rw [List.length_take]; omega) fun y hy => fit_mem HF.out y (List.mem_of_mem_take hy)
  have HFt : Hid (∀ m : Nat, m < tN → fitB ⟨(tN : Int), n, s, ps⟩ (xs.take a ++ [(m : Int)]) = true) := fun m hm => fit_sub HF.out (by rw [List.length_append, List.length_take]; show _ + 1 ≤ 24; omega) fun y hy => by
    rcases List.mem_append.1 hy with hy | hy
    · exact fit_mem HF.out y (List.mem_of_mem_take hy)
    · rw [List.mem_singleton] at hy; subst hy; exact ⟨by omega, by show (m : Int) < (tN : Int); omega⟩
  have HTl : Hid ((xs.take a).length = a) := by show _ = _; rw [List.length_take, ← HLL.out]; omega
  have HTl1 : Hid (a < ll → (xs.take (a + 1)).length = a + 1) := fun h => by rw [List.length_take, ← HLL.out]; omega
  rw [HM0.out] at HIn
  clear hst HA HIs HM0
  rw [show stopV (some (a, z)) = .tuple #[.int .i64 (a : Int), .int .u32 (z : Int), .bool true] from rfl]
  go_wp2_with fail
  refine HIn.out.mono ?_
  rintro e w5 ⟨rfl, hb5⟩
  have HB5 := Lib.hid (HB4.out.trans hb5)
  have HK5 := Lib.hid (HK4.out.bl hb5)
  clear hb5 k0 k1 k2 k3 kl HIn HB4 HK4
  have k0 : w5.cell? ⟨W.heap.size, 0, none⟩ = some (.int .i64 (tN : Int)) := HK5.out.cell 0
  have k1 : w5.cell? ⟨W.heap.size, 1, none⟩ = some (.int .i64 n) := HK5.out.cell 1
  have k2 : w5.cell? ⟨W.heap.size, 2, none⟩ = some (.int .i64 s) := HK5.out.cell 2
  have k3 : w5.cell? ⟨W.heap.size, 3, none⟩ = some (.slice A len c) := HK5.out.cell 3
  have kl := HK5.out.lt
  have i1 : ¬ (a : Int) < 0 := by omega
  have i2 : ¬ (ll : Int) < (a : Int) := by omega
  go_wp2_with fail
  refine (wild_any (tN : Int) n s A len c ps w5 w5.heap.size HL.out HOk.out hpos (HPc.out w5 HB5.out) (Nat.le_refl _)).mono ?_
  rintro e w6 ⟨A8, c8, rfl, hp8, hb6⟩
  have HB6 := Lib.hid (HB5.out.trans hb6)
  have HK6 := Lib.hid (HK5.out.bl hb6)
  have HP6 := Lib.hid hp8
  clear hb6 hp8 k0 k1 k2 k3 kl HB5 HK5
  have HIw : Hid (∀ (wx : World) (Aq : Option Addr) (lq cq : Nat) (ys : List Int), Bl w6 wx → lq = ys.length → Rd wx wx.heap.size Aq (ins ys) → fitB ⟨(tN : Int), n, s, ps⟩ ys = true → Calls Try.prog 16 #[.agg #[.int .i64 (tN : Int), .int .i64 (2 * n), .int .i64 (n + s), .slice A8 (Wi.wild ⟨(tN : Int), n, s, ps⟩).prods.length c8], .slice Aq lq cq] wx fun e w' => e = .returned (.bool (Ld.mayB 2 ⟨(tN : Int), n, s, ps⟩ ys [⟨true, s⟩] 0)) ∧ Bl wx w') := fun wx Aq lq cq ys hb hl hr hf => inw_any (tN : Int) n s A8 c8 ps Aq lq cq ys wx wx.heap.size ((HP6.out.bl (Nat.le_refl _) hb).more hb.size) hl hr (Nat.le_refl _) hf
  have HI4 : Hid (∀ (wx : World), Bl W wx → Calls Try.prog 16 #[.agg #[.int .i64 (tN : Int), .int .i64 n, .int .i64 s, .slice A len c], .slice Al a cl] wx fun e w' => e = .returned (.bool (z.testBit 16)) ∧ Bl wx w') := fun wx hb => by
    have h := in8_any (tN : Int) n s A len c ps Al a cl (xs.take a) wx wx.heap.size HL.out (HPc.out wx hb).prs HTl.out.symm (ins_takeC (HXc.out wx hb) a) (Nat.le_refl _) HFa.out
    rwa [HM4.out] at h
  clear HP6 HM4
  generalize (Wi.wild ⟨(tN : Int), n, s, ps⟩).prods.length = wl at *
  have HG7 := Lib.hid (Bk.new w6 24 #[.int .i64 (tN : Int), .int .i64 (2 * n), .int .i64 (n + s), .slice A8 wl c8])
  have HB7 : Hid (Bl w6 (w6.alloc (.cells #[.int .i64 (tN : Int), .int .i64 (2 * n), .int .i64 (n + s), .slice A8 wl c8] 24))) := (Bl.refl w6).alloc _
  go_upto_region 13 with fail
  generalize w6.alloc (.cells #[.int .i64 (tN : Int), .int .i64 (2 * n), .int .i64 (n + s), .slice A8 wl c8] 24) = w7 at *
  generalize w6.heap.size = gw at *
  have HBx := Lib.hid (Bl.refl w7)
  have HXg : Hid (∀ wx, Bl w7 wx → wx.cell? ⟨gw, 0, none⟩ = some (.int .i64 (tN : Int)) ∧ wx.cell? ⟨gw, 1, none⟩ = some (.int .i64 (2 * n)) ∧ wx.cell? ⟨gw, 2, none⟩ = some (.int .i64 (n + s)) ∧ wx.cell? ⟨gw, 3, none⟩ = some (.slice A8 wl c8)) := fun wx hb => ⟨(HG7.out.bl hb).cell 0, (HG7.out.bl hb).cell 1, (HG7.out.bl hb).cell 2, (HG7.out.bl hb).cell 3⟩
  have hsl := fun (wx : World) => run_slice_head (P := Try.prog) (t := 25) (e := 3) (size := 1) Try.underlying25 ch_int_size Al ll cl a (a : Int) rfl (by omega) wx
  have tk1 : True := trivial
  have tk2 : True := trivial
  have HI1 : Hid (∀ (wx : World), Bl w7 wx → Calls Try.prog 16 #[.agg #[.int .i64 (tN : Int), .int .i64 (2 * n), .int .i64 (n + s), .slice A8 wl c8], .slice Al a cl] wx fun e w' => e = .returned (.bool true) ∧ Bl wx w') := fun wx hb => by
    have h := HIw.out wx Al a cl (xs.take a) (HB7.out.trans hb) HTl.out.symm (ins_takeC (HXc.out wx (HB6.out.trans (HB7.out.trans hb))) a) HFa.out
    rwa [HM1.out] at h
  go_cut [70] (fun v wx => v = .bool false ∧ Hid (Bl w7 wx))
  case first =>
    by_cases hall : a < ll
    · have i3 : (a : Int) < (ll : Int) := by omega
      have d3 : decide ((a : Int) < (ll : Int)) = true := decide_eq_true i3
      have i4 : (0 : Int) ≤ (a : Int) + 1 := by omega
      have hwr : IntKind.i64.wrap ((a : Int) + 1) = (a : Int) + 1 := by simp [IntKind.wrap, IntKind.bits, IntKind.signed]; omega
      have i5 : (a : Int) + 1 ≤ (ll : Int) := by omega
      have hsl2 := fun (wx : World) => run_slice_head (P := Try.prog) (t := 25) (e := 3) (size := 1) Try.underlying25 ch_int_size Al ll cl (a + 1) ((a : Int) + 1) (by omega) (by omega) wx
      have HI2 : Hid (∀ (wx : World), Bl w7 wx → Calls Try.prog 16 #[.agg #[.int .i64 (tN : Int), .int .i64 (2 * n), .int .i64 (n + s), .slice A8 wl c8], .slice Al (a + 1) cl] wx fun e w' => e = .returned (.bool false) ∧ Bl wx w') := fun wx hb => by
        have h := HIw.out wx Al (a + 1) cl (xs.take (a + 1)) (HB7.out.trans hb) (HTl1.out hall).symm (ins_takeC (HXc.out wx (HB6.out.trans (HB7.out.trans hb))) (a + 1)) HFb.out
        rwa [HM2.out hall] at h
      go_region_held3 (fun wx => wx.cell? ⟨gw, 0, none⟩ = some (.int .i64 (tN : Int)) ∧ wx.cell? ⟨gw, 1, none⟩ = some (.int .i64 (2 * n)) ∧ wx.cell? ⟨gw, 2, none⟩ = some (.int .i64 (n + s)) ∧ wx.cell? ⟨gw, 3, none⟩ = some (.slice A8 wl c8)) (first | with_reducible exact HXg.out _ HBx.out | with_reducible exact HXg.out _ HBx.out.drew) (first
        | (go_at_call 16; have _t := tk1; ((with_reducible refine (HI1.out _ (by first | exact HBx.out.drew | exact HBx.out)).mono ?_); rintro e v1 ⟨rfl, hb1⟩; have HBx := Lib.hid (HBx.out.drew.trans hb1); clear hb1; clear tk1))
        | (go_at_call 16; have _t := tk2; ((with_reducible refine (HI2.out _ (by first | exact HBx.out | exact HBx.out.drew)).mono ?_); rintro e v2 ⟨rfl, hb2⟩; have HBx := Lib.hid (HBx.out.trans hb2); clear hb2; clear tk2)))
      all_goals
        go_wp2_with fail
        go_meet
        exact ⟨rfl, HBx.out⟩
    · have d3 : decide ((a : Int) < (ll : Int)) = false := decide_eq_false (by omega)
      have d5 : decide (a < ll) = false := decide_eq_false hall
      clear hall
      refine wp_region_held_drew (S := (fun wx => wx.cell? ⟨gw, 0, none⟩ = some (.int .i64 (tN : Int)) ∧ wx.cell? ⟨gw, 1, none⟩ = some (.int .i64 (2 * n)) ∧ wx.cell? ⟨gw, 2, none⟩ = some (.int .i64 (n + s)) ∧ wx.cell? ⟨gw, 3, none⟩ = some (.slice A8 wl c8))) (by kernel_rfl) (HXg.out _ HBx.out.drew) (fun hHeld => ?_)
      refine wpAnyH_take (i := 0) (oi := ({ dst := some 51, op := Op.load 24 (Operand.tmp 8), type := 24, pos := "law.go:57", after := #[], guard := none } : Oper)) (v := ?_) rfl (by kernel_rfl) (by kernel_rfl) (by kernel_rfl) (fun _ _ _ h => h) (Or.inl ⟨by rfl, ?_⟩) hHeld ?_
      rotate_left
      · (intro w hSw; (try dsimp only at hSw); go_simp) <;> with_reducible rfl
      try simp only [Act.put, List.setIfInBounds_toArray, List.set_cons_zero, List.set_cons_succ]
      refine wpAnyH_take (i := 1) (oi := ({ dst := some 52, op := Op.move (Operand.tmp 1), type := 25, pos := "law.go:57", after := #[], guard := none } : Oper)) (v := ?_) rfl (by kernel_rfl) (by kernel_rfl) (by kernel_rfl) (fun _ _ _ h => h) (Or.inl ⟨by rfl, ?_⟩) hHeld ?_
      rotate_left
      · (intro w hSw; (try dsimp only at hSw); go_simp) <;> with_reducible rfl
      try simp only [Act.put, List.setIfInBounds_toArray, List.set_cons_zero, List.set_cons_succ]
      refine wpAnyH_take (i := 2) (oi := ({ dst := some 53, op := Op.move (Operand.tmp 5), type := 3, pos := "law.go:57", after := #[], guard := none } : Oper)) (v := ?_) rfl (by kernel_rfl) (by kernel_rfl) (by kernel_rfl) (fun _ _ _ h => h) (Or.inl ⟨by rfl, ?_⟩) hHeld ?_
      rotate_left
      · (intro w hSw; (try dsimp only at hSw); go_simp) <;> with_reducible rfl
      try simp only [Act.put, List.setIfInBounds_toArray, List.set_cons_zero, List.set_cons_succ]
      refine wpAnyH_take (i := 3) (oi := ({ dst := some 54, op := Op.slice 25 (Operand.tmp 52) none (some (Operand.tmp 53)) none, type := 25, pos := "law.go:57", after := #[{ on := 1, ground := Ground.data }, { on := 2, ground := Ground.data }], guard := none } : Oper)) (v := ?_) rfl (by kernel_rfl) (by kernel_rfl) (by kernel_rfl) (fun _ _ _ h => h) (Or.inl ⟨by rfl, ?_⟩) hHeld ?_
      rotate_left
      · (intro w hSw; (try dsimp only at hSw); go_simp) <;> with_reducible rfl
      try simp only [Act.put, List.setIfInBounds_toArray, List.set_cons_zero, List.set_cons_succ]
      refine wpAnyH_ready (rs := [4]) (by kernel_rfl) (by simp) ?_
      refine AllReadyH.cons (o := ({ dst := some 55, op := Op.call { callee := Callee.value (Operand.func 16), args := #[Operand.tmp 51, Operand.tmp 54], argTypes := #[24, 25] }, type := 4, pos := "law.go:57", after := #[{ on := 0, ground := Ground.data }, { on := 3, ground := Ground.data }], guard := none } : Oper)) rfl (fun K hK => ?_) (AllReadyH.nil)
      go_simp
      ((with_reducible refine (HI1.out _ HBx.out.drew).mono ?_); rintro e v1 ⟨rfl, hb1⟩)
      have HBy := Lib.hid (HBx.out.drew.trans hb1)
      clear hb1
      go_wp2_with fail
      refine hK.out _ _ (HXg.out _ HBy.out) (fun hHeld => ?_)
      clear hK K
      try simp only [Act.put, List.setIfInBounds_toArray, List.set_cons_zero, List.set_cons_succ]
      refine wpAnyH_take (i := 5) (oi := ({ dst := some 56, op := Op.unOp UnOp.not 4 (Operand.tmp 55), type := 4, pos := "law.go:57", after := #[{ on := 4, ground := Ground.data }], guard := none } : Oper)) (v := ?_) rfl (by kernel_rfl) (by kernel_rfl) (by kernel_rfl) (fun _ _ _ h => h) (Or.inl ⟨by rfl, ?_⟩) hHeld ?_
      rotate_left
      · (intro w hSw; (try dsimp only at hSw); go_simp) <;> with_reducible rfl
      try simp only [Act.put, List.setIfInBounds_toArray, List.set_cons_zero, List.set_cons_succ]
      refine wpAnyH_take (i := 6) (oi := ({ dst := some 57, op := Op.move (Operand.tmp 56), type := 4, pos := "law.go:57", after := #[{ on := 5, ground := Ground.data }, { on := 4, ground := Ground.chain }], guard := none } : Oper)) (v := ?_) rfl (by kernel_rfl) (by kernel_rfl) (by kernel_rfl) (fun _ _ _ h => h) (Or.inl ⟨by rfl, ?_⟩) hHeld ?_
      rotate_left
      · (intro w hSw; (try dsimp only at hSw); go_simp) <;> with_reducible rfl
      try simp only [Act.put, List.setIfInBounds_toArray, List.set_cons_zero, List.set_cons_succ]
      refine wpAnyH_take (i := 7) (oi := ({ dst := some 58, op := Op.move (Operand.tmp 5), type := 3, pos := "law.go:57", after := #[{ on := 6, ground := Ground.guard }], guard := some (6, false) } : Oper)) (v := ?_) rfl (by kernel_rfl) (by kernel_rfl) (by kernel_rfl) (fun _ _ _ h => h) (Or.inl ⟨by rfl, ?_⟩) hHeld ?_
      rotate_left
      · (intro w hSw; (try dsimp only at hSw); go_simp) <;> with_reducible rfl
      try simp only [Act.put, List.setIfInBounds_toArray, List.set_cons_zero, List.set_cons_succ]
      refine wpAnyH_take (i := 8) (oi := ({ dst := some 59, op := Op.move (Operand.tmp 1), type := 25, pos := "law.go:57", after := #[{ on := 6, ground := Ground.guard }], guard := some (6, false) } : Oper)) (v := ?_) rfl (by kernel_rfl) (by kernel_rfl) (by kernel_rfl) (fun _ _ _ h => h) (Or.inl ⟨by rfl, ?_⟩) hHeld ?_
      rotate_left
      · (intro w hSw; (try dsimp only at hSw); go_simp) <;> with_reducible rfl
      try simp only [Act.put, List.setIfInBounds_toArray, List.set_cons_zero, List.set_cons_succ]
      refine wpAnyH_take (i := 9) (oi := ({ dst := some 60, op := Op.call { callee := Callee.builtin Builtin.len, args := #[Operand.tmp 59], argTypes := #[25] }, type := 3, pos := "law.go:57", after := #[{ on := 8, ground := Ground.data }, { on := 6, ground := Ground.guard }], guard := some (6, false) } : Oper)) (v := ?_) rfl (by kernel_rfl) (by kernel_rfl) (by kernel_rfl) (fun _ _ _ h => h) (Or.inl ⟨by rfl, ?_⟩) hHeld ?_
      rotate_left
      · (intro w hSw; (try dsimp only at hSw); go_simp) <;> with_reducible rfl
      try simp only [Act.put, List.setIfInBounds_toArray, List.set_cons_zero, List.set_cons_succ]
      refine wpAnyH_take (i := 10) (oi := ({ dst := some 61, op := Op.binOp BinOp.lss 3 (Operand.tmp 58) (Operand.tmp 60) 3, type := 4, pos := "law.go:57", after := #[{ on := 7, ground := Ground.data }, { on := 9, ground := Ground.data }, { on := 6, ground := Ground.guard }], guard := some (6, false) } : Oper)) (v := ?_) rfl (by kernel_rfl) (by kernel_rfl) (by kernel_rfl) (fun _ _ _ h => h) (Or.inl ⟨by rfl, ?_⟩) hHeld ?_
      rotate_left
      · (intro w hSw; (try dsimp only at hSw); go_simp) <;> with_reducible rfl
      try simp only [Act.put, List.setIfInBounds_toArray, List.set_cons_zero, List.set_cons_succ]
      refine wpAnyH_take (i := 11) (oi := ({ dst := some 62, op := Op.move (Operand.tmp 61), type := 4, pos := "law.go:57", after := #[{ on := 10, ground := Ground.data }, { on := 6, ground := Ground.chain }, { on := 6, ground := Ground.guard }], guard := some (6, false) } : Oper)) (v := ?_) rfl (by kernel_rfl) (by kernel_rfl) (by kernel_rfl) (fun _ _ _ h => h) (Or.inl ⟨by rfl, ?_⟩) hHeld ?_
      rotate_left
      · (intro w hSw; (try dsimp only at hSw); go_simp) <;> with_reducible rfl
      try simp only [Act.put, List.setIfInBounds_toArray, List.set_cons_zero, List.set_cons_succ]
      refine wpAnyH_take (i := 12) (oi := ({ dst := some 63, op := Op.load 24 (Operand.tmp 8), type := 24, pos := "law.go:57", after := #[{ on := 11, ground := Ground.guard }], guard := some (11, true) } : Oper)) (v := undef) rfl (by kernel_rfl) (by kernel_rfl) (by kernel_rfl) (fun _ _ _ h => h) (Or.inr ⟨by rfl, rfl⟩) hHeld ?_
      try simp only [Act.put, List.setIfInBounds_toArray, List.set_cons_zero, List.set_cons_succ]
      refine wpAnyH_take (i := 13) (oi := ({ dst := some 64, op := Op.move (Operand.tmp 1), type := 25, pos := "law.go:57", after := #[{ on := 11, ground := Ground.guard }], guard := some (11, true) } : Oper)) (v := undef) rfl (by kernel_rfl) (by kernel_rfl) (by kernel_rfl) (fun _ _ _ h => h) (Or.inr ⟨by rfl, rfl⟩) hHeld ?_
      try simp only [Act.put, List.setIfInBounds_toArray, List.set_cons_zero, List.set_cons_succ]
      refine wpAnyH_take (i := 14) (oi := ({ dst := some 65, op := Op.move (Operand.tmp 5), type := 3, pos := "law.go:57", after := #[{ on := 11, ground := Ground.guard }], guard := some (11, true) } : Oper)) (v := undef) rfl (by kernel_rfl) (by kernel_rfl) (by kernel_rfl) (fun _ _ _ h => h) (Or.inr ⟨by rfl, rfl⟩) hHeld ?_
      try simp only [Act.put, List.setIfInBounds_toArray, List.set_cons_zero, List.set_cons_succ]
      refine wpAnyH_take (i := 15) (oi := ({ dst := some 66, op := Op.binOp BinOp.add 3 (Operand.tmp 65) (Operand.const (Value.int IntKind.i64 1)) 3, type := 3, pos := "law.go:57", after := #[{ on := 14, ground := Ground.data }, { on := 11, ground := Ground.guard }], guard := some (11, true) } : Oper)) (v := undef) rfl (by kernel_rfl) (by kernel_rfl) (by kernel_rfl) (fun _ _ _ h => h) (Or.inr ⟨by rfl, rfl⟩) hHeld ?_
      try simp only [Act.put, List.setIfInBounds_toArray, List.set_cons_zero, List.set_cons_succ]
      refine wpAnyH_take (i := 16) (oi := ({ dst := some 67, op := Op.slice 25 (Operand.tmp 64) none (some (Operand.tmp 66)) none, type := 25, pos := "law.go:57", after := #[{ on := 13, ground := Ground.data }, { on := 15, ground := Ground.data }, { on := 11, ground := Ground.guard }], guard := some (11, true) } : Oper)) (v := undef) rfl (by kernel_rfl) (by kernel_rfl) (by kernel_rfl) (fun _ _ _ h => h) (Or.inr ⟨by rfl, rfl⟩) hHeld ?_
      try simp only [Act.put, List.setIfInBounds_toArray, List.set_cons_zero, List.set_cons_succ]
      refine wpAnyH_take (i := 17) (oi := ({ dst := some 68, op := Op.call { callee := Callee.value (Operand.func 16), args := #[Operand.tmp 63, Operand.tmp 67], argTypes := #[24, 25] }, type := 4, pos := "law.go:57", after := #[{ on := 12, ground := Ground.data }, { on := 16, ground := Ground.data }, { on := 11, ground := Ground.chain }, { on := 11, ground := Ground.guard }], guard := some (11, true) } : Oper)) (v := undef) rfl (by kernel_rfl) (by kernel_rfl) (by kernel_rfl) (fun _ _ _ h => h) (Or.inr ⟨by rfl, rfl⟩) hHeld ?_
      try simp only [Act.put, List.setIfInBounds_toArray, List.set_cons_zero, List.set_cons_succ]
      refine wpAnyH_take (i := 18) (oi := ({ dst := some 69, op := Op.pick (Operand.tmp 62) (Operand.tmp 68) (Operand.const (Value.bool false)), type := 4, pos := "law.go:57", after := #[{ on := 11, ground := Ground.data }, { on := 17, ground := Ground.data }, { on := 6, ground := Ground.guard }], guard := some (6, false) } : Oper)) (v := ?_) rfl (by kernel_rfl) (by kernel_rfl) (by kernel_rfl) (fun _ _ _ h => h) (Or.inl ⟨by rfl, ?_⟩) hHeld ?_
      rotate_left
      · (intro w hSw; (try dsimp only at hSw); go_simp) <;> with_reducible rfl
      try simp only [Act.put, List.setIfInBounds_toArray, List.set_cons_zero, List.set_cons_succ]
      refine wpAnyH_take (i := 19) (oi := ({ dst := some 70, op := Op.pick (Operand.tmp 57) (Operand.const (Value.bool true)) (Operand.tmp 69), type := 4, pos := "law.go:57", after := #[{ on := 6, ground := Ground.data }, { on := 18, ground := Ground.data }], guard := none } : Oper)) (v := ?_) rfl (by kernel_rfl) (by kernel_rfl) (by kernel_rfl) (fun _ _ _ h => h) (Or.inl ⟨by rfl, ?_⟩) hHeld ?_
      rotate_left
      · (intro w hSw; (try dsimp only at hSw); go_simp) <;> with_reducible rfl
      try simp only [Act.put, List.setIfInBounds_toArray, List.set_cons_zero, List.set_cons_succ]
      refine wpAnyH_done (by kernel_rfl) ?_ _
      go_wp2_with fail
      go_meet
      exact ⟨rfl, HBy.out⟩
  case rest =>
  obtain ⟨rfl, HBc⟩ := hcut
  have HGc := Lib.hid (HG7.out.bl HBc.out)
  have HB8 := Lib.hid (HB6.out.trans (HB7.out.trans HBc.out))
  have HK8 := Lib.hid (HK6.out.bl (HB7.out.trans HBc.out))
  have HBw := Lib.hid (HB7.out.trans HBc.out)
  clear HBx HXg hsl tk1 tk2 HI1 HM1 HM2 HFb HTl1 HG7 HK6 HB6 HBc HB7
  have k0 : wc.cell? ⟨W.heap.size, 0, none⟩ = some (.int .i64 (tN : Int)) := HK8.out.cell 0
  have kl := HK8.out.lt
  go_wp2_with fail
  clear k0 kl
  obtain ⟨i0, hi, hz0, hz1, hz2⟩ := info_parts word_int_info
  go_loopw [73] (fun i wr => ∃ m : Nat, m ≤ tN ∧ i = .int .i64 (m : Int) ∧ Hid (Bl wc wr)) (fun i _ => tN - (intOf i).toNat)
  case atStart => exact ⟨0, Nat.zero_le _, rfl, Bl.refl _⟩
  case round =>
    obtain ⟨m, hm, rfl, HBr⟩ := hrel
    by_cases hlt : m < tN
    · have HBq := Lib.hid (HB8.out.trans HBr.out)
      have HKq := Lib.hid (HGc.out.bl HBr.out)
      have HXw : Hid (∀ w', Bl wr w' → Rd w' wr.heap.size Al (ins (xs.take a))) := fun w' hb => (ins_takeC (HXc.out wr HBq.out) a).bl (Nat.le_refl _) hb
      have HQ2 : Hid (∀ o, wr.heap.size ≤ (wr.alloc o).drew.heap.size) := fun o => by show _ ≤ (wr.alloc o).heap.size; rw [World.size_alloc]; omega
      have HQ3 : Hid (∀ o o', wr.heap.size ≤ ((wr.alloc o).alloc o').drew.heap.size) := fun o o' => by show _ ≤ ((wr.alloc o).alloc o').heap.size; rw [World.size_alloc, World.size_alloc]; omega
      have hl2 : (xs.take a ++ [(m : Int)]).length = a + 1 := by rw [List.length_append, HTl.out]; rfl
      have HIm := Lib.hid (fun (wx : World) (Aq : Option Addr) (cq : Nat) (hb : Bl wr wx) (hr : Rd wx wx.heap.size Aq (ins (xs.take a ++ [(m : Int)]))) => HIw.out wx Aq (a + 1) cq (xs.take a ++ [(m : Int)]) (HBw.out.trans (HBr.out.trans hb)) hl2.symm hr (HFt.out m hlt))
      rw [HM3.out m hlt] at HIm
      have hbt := bit_test (z := z) m (by omega)
      have hm32 : min m 32 = m := by omega
      have HKc := Lib.hid HKq.out
      have hsl := fun (wx : World) => run_slice_head (P := Try.prog) (t := 25) (e := 3) (size := 1) Try.underlying25 ch_int_size Al ll cl a (a : Int) rfl (by omega) wx
      have i3 : (m : Int) < (tN : Int) := by omega
      have i4 : (0 : Int) ≤ (m : Int) := by omega
      clear hl2
      generalize hzb : z.testBit m = zb at *
      have hb1 : (bits .and .u32 ((z : Int) / 2 ^ m) 1 == 1) = zb := by rw [hbt]; cases zb <;> rfl
      clear hbt hzb
      have tk1 : True := trivial
      have tk2 : True := trivial
      go_upto_region 18 with fail
      go_region_held3 (fun wx => wx.cell? ⟨gw, 0, none⟩ = some (.int .i64 (tN : Int)) ∧ wx.cell? ⟨gw, 1, none⟩ = some (.int .i64 (2 * n)) ∧ wx.cell? ⟨gw, 2, none⟩ = some (.int .i64 (n + s)) ∧ wx.cell? ⟨gw, 3, none⟩ = some (.slice A8 wl c8)) (first | with_reducible exact gcells HKc.out | with_reducible exact gcells HKc.out.drew | with_reducible exact gcells (HKc.out.alloc _) | with_reducible exact gcells (HKc.out.alloc _).drew | with_reducible exact gcells ((HKc.out.alloc _).alloc _).drew) (first
                  | ((refine step_append_rdN rfl (.tmp 82) (.tmp 85) 25 rfl wr.heap.size 3 i0 (.int .i64 0) 1 8 Try.underlying25 hi hz0 hz1 hz2 rfl (by decide) (.slice (some ⟨_, 0, none⟩) 0 0) 0 [] rfl ?hown wr.heap.size Al a cl (ins (xs.take a)) rfl ?hrd ?hlen (ins_oneC _) (by simp only [maxLen]; omega) (by omega) ?hbase ?_); (case hlen => rw [ins_len, HTl.out, Nat.mul_one]); (case hown => first | with_reducible exact own_drew (own_empty wr _ _ (Nat.le_refl _)) | with_reducible exact own_drew (own_alloc (own_empty wr _ _ (Nat.le_refl _)) _) | with_reducible exact own_drew (own_emptyC wr _ _ _ (Nat.le_refl _))); (case hrd => first | with_reducible exact HXw.out _ ((Bl.refl wr).alloc _).drew | with_reducible exact HXw.out _ (((Bl.refl wr).alloc _).alloc _).drew); (case hbase => first | with_reducible exact HQ2.out _ | with_reducible exact HQ3.out _ _); have _t := tk1; intro v2 x2 hown2 hg2; rw [Nat.zero_add, List.nil_append] at hown2; obtain ⟨A2, c2, hv2, hd2⟩ := own_form hown2; subst hv2; have HO2 := Lib.hid hown2; have HKz := Lib.hid HKc.out; (first
                    | ((with_reducible change World.grownBy (wr.alloc (.cells #[] 3)).drew x2 _ at hg2); have HBx : Hid (Bl wr x2) := ((Bl.refl wr).alloc _).drew.grown hg2 (fun k hk => by cases hk; exact Nat.le_refl _))
                    | ((with_reducible change World.grownBy ((wr.alloc (.cells #[.int .i64 (m : Int)] 3)).alloc (.cells #[] 3)).drew x2 _ at hg2); have HBx : Hid (Bl wr x2) := (((Bl.refl wr).alloc _).alloc _).drew.grown hg2 (fun k hk => by cases hk; exact Nat.le_succ _); have HBt : Hid (Bk x2 wr.heap.size 3 #[.int .i64 (m : Int)]) := ((Bk.new wr 3 #[.int .i64 (m : Int)]).alloc _).drew.grown hg2 (by simp [Value.ownBlock]))
                    | ((with_reducible change World.grownBy ((wr.alloc (.cells #[] 3)).alloc (.cells #[.int .i64 (m : Int)] 3)).drew x2 _ at hg2); have HBx : Hid (Bl wr x2) := (((Bl.refl wr).alloc _).alloc _).drew.grown hg2 (fun k hk => by cases hk; exact Nat.le_refl _); have h0 := Bk.new (wr.alloc (.cells #[] 3)) 3 #[.int .i64 (m : Int)]; rw [World.size_alloc] at h0; have HBt : Hid (Bk x2 (wr.heap.size + 1) 3 #[.int .i64 (m : Int)]) := h0.drew.grown hg2 (by simp [Value.ownBlock]); clear h0)); have HKc := Lib.hid (HKz.out.bl HBx.out); have HS2 : Hid (wr.heap.size ≤ x2.heap.size) := HBx.out.size; have HS3 : Hid (∀ o, wr.heap.size ≤ (x2.alloc o).heap.size) := (fun o => by rw [World.size_alloc]; have := HS2.out; omega); clear hown2 hg2 hd2 tk1)
                  | ((first
                    | ((refine step_append_rdN rfl (.tmp 86) (.tmp 88) 25 rfl wr.heap.size 3 i0 (.int .i64 0) 1 8 Try.underlying25 hi hz0 hz1 hz2 rfl (by decide) (.slice A2 a c2) a (ins (xs.take a)) rfl ?hown x2.heap.size (some ⟨_, 0, none⟩) 1 1 (ins [(m : Int)]) rfl ?hrd rfl (ins_oneC _) (by simp only [maxLen]; omega) (by omega) ?hbase ?_); (case hrd => first | with_reducible exact rd_blockC HBt.out | with_reducible exact rd_drewC (rd_blockC HBt.out)))
                    | ((refine step_append_rdN rfl (.tmp 86) (.tmp 88) 25 rfl wr.heap.size 3 i0 (.int .i64 0) 1 8 Try.underlying25 hi hz0 hz1 hz2 rfl (by decide) (.slice A2 a c2) a (ins (xs.take a)) rfl ?hown (x2.alloc (.cells #[.int .i64 (m : Int)] 3)).heap.size (some ⟨_, 0, none⟩) 1 1 (ins [(m : Int)]) rfl ?hrd rfl (ins_oneC _) (by simp only [maxLen]; omega) (by omega) ?hbase ?_); (case hrd => first | with_reducible exact rd_blockC (Bk.new x2 _ _) | with_reducible exact rd_drewC (rd_blockC (Bk.new x2 _ _))))); (case hown => first | with_reducible exact HO2.out | with_reducible exact own_drew HO2.out | with_reducible exact own_alloc HO2.out _ | with_reducible exact own_drew (own_alloc HO2.out _)); (case hbase => first | with_reducible exact HS2.out | with_reducible exact HS3.out _ | exact HS2.out | exact HS3.out _); have _t := tk2; intro v3 x3 hown3 hg3; obtain ⟨A3, c3, hv3, hd3⟩ := own_form hown3; subst hv3; have HO3 := Lib.hid (Rd.own hown3); have HD3 := Lib.hid hd3; have HBy : Hid (Bl wr x3) := (by first | exact HBx.out.grown hg3 (fun k hk => (HO2.out.lt k hk).1) | exact HBx.out.drew.grown hg3 (fun k hk => (HO2.out.lt k hk).1) | exact (HBx.out.alloc _).grown hg3 (fun k hk => (HO2.out.lt k hk).1) | exact (HBx.out.alloc _).drew.grown hg3 (fun k hk => (HO2.out.lt k hk).1)); have HKc := Lib.hid (HKq.out.bl HBy.out); clear hown3 hg3 hd3 tk2)
                  | (go_at_call 16; (first
                    | ((with_reducible refine (HIm.out x3 A3 c3 HBy.out (ins_snocC HO3.out)).mono ?_); rintro e w9 ⟨rfl, hb9⟩)
                    | ((with_reducible refine (HIm.out x3.drew A3 c3 HBy.out.drew (rd_drewC (ins_snocC HO3.out))).mono ?_); rintro e w9 ⟨rfl, hb9⟩; replace hb9 := Bl.undrew hb9)); have HB9 := Lib.hid (HBy.out.trans hb9); have HKc := Lib.hid (HKc.out.bl hb9); clear hb9))
      all_goals
        have HB10 : Hid (Bl wc w9) := HBr.out.trans HB9.out
        have hzz : (zb != zb) = false := by cases zb <;> rfl
        go_wp2_with fail
        go_roundw
        case rel => exact ⟨m + 1, by omega, by go_num, HB10.out⟩
        case measure => simp [intOf]; omega
    · have hmt : m = tN := by omega
      have i3 : ¬ (m : Int) < (tN : Int) := by omega
      have HKq := Lib.hid (HK8.out.bl HBr.out)
      have HBx := Lib.hid (Bl.refl wr)
      have HBq := Lib.hid (HB8.out.trans HBr.out)
      have hsl := fun (wx : World) => run_slice_head (P := Try.prog) (t := 25) (e := 3) (size := 1) Try.underlying25 ch_int_size Al ll cl a (a : Int) rfl (by omega) wx
      obtain ⟨tq, htq⟩ : ∃ tq : Nat, 16 - tN = tq := ⟨_, rfl⟩
      have e16 : (16 : Int) - (tN : Int) = (tq : Int) := by omega
      have hw16 : IntKind.i64.wrap (16 - (tN : Int)) = (tq : Int) := by rw [e16]; simp [IntKind.wrap, IntKind.bits, IntKind.signed]; omega
      have hwtq : IntKind.i64.wrap (tq : Int) = (tq : Int) := by simp [IntKind.wrap, IntKind.bits, IntKind.signed]; omega
      have hpw : (2 : Int) ^ tq % 4294967296 = ((2 ^ tq : Nat) : Int) := by
        have h2 : 2 ^ tq < 4294967296 := Nat.pow_lt_pow_right (a := 2) (m := tq) (n := 32) (by decide) (by omega)
        rw [show (2 : Int) ^ tq = ((2 ^ tq : Nat) : Int) from (Int.natCast_pow 2 tq).symm]
        exact Int.emod_eq_of_lt (Int.natCast_nonneg _) (Int.ofNat_lt.2 h2)
      have hzd : ((z : Int) / 2 ^ tN) = ((z / 2 ^ tN : Nat) : Int) := by rw [Int.natCast_ediv, Int.natCast_pow]; rfl
      have hand : bits .andNot .u32 ((z : Int) / 2 ^ tN) ((2 : Int) ^ tq % 4294967296) = 0 := by rw [hpw, hzd, ← htq]; exact HM5.out
      have hwp : IntKind.u32.wrap ((2 : Int) ^ tq) = (2 : Int) ^ tq % 4294967296 := by simp [IntKind.wrap, IntKind.bits, IntKind.signed]
      have hand2 : bits .andNot .u32 ((z : Int) / 2 ^ tN) (IntKind.u32.wrap ((2 : Int) ^ tq)) = 0 := by rw [hwp]; exact hand
      have hend : ((z : Int) / 65536 == 1) = z.testBit 16 := end_bit hz
      have h32 : min tN 32 = tN := by omega
      have hq32 : min tq 32 = tq := by omega
      have i5 : (0 : Int) ≤ (tN : Int) := by omega
      have i6 : (0 : Int) ≤ (tq : Int) := by omega
      have HX : Hid (∀ wx, Bl wr wx → wx.cell? ⟨W.heap.size, 0, none⟩ = some (.int .i64 (tN : Int)) ∧ wx.cell? ⟨W.heap.size, 1, none⟩ = some (.int .i64 n) ∧ wx.cell? ⟨W.heap.size, 2, none⟩ = some (.int .i64 s) ∧ wx.cell? ⟨W.heap.size, 3, none⟩ = some (.slice A len c)) := fun wx hb => gcells (HKq.out.bl hb)
      have tk1 : True := trivial
      clear hzd hpw htq hmt hwp hand
      go_upto_region 21 with fail
      go_region_held3 (fun wx => wx.cell? ⟨W.heap.size, 0, none⟩ = some (.int .i64 (tN : Int)) ∧ wx.cell? ⟨W.heap.size, 1, none⟩ = some (.int .i64 n) ∧ wx.cell? ⟨W.heap.size, 2, none⟩ = some (.int .i64 s) ∧ wx.cell? ⟨W.heap.size, 3, none⟩ = some (.slice A len c)) (first | with_reducible exact HX.out _ HBx.out | with_reducible exact HX.out _ HBx.out.drew) (first
        | (go_at_call 16; have _t := tk1; ((with_reducible refine (HI4.out _ (HBq.out.trans (by first | exact HBx.out | exact HBx.out.drew))).mono ?_); rintro e v1 ⟨rfl, hb1⟩; have HBx := Lib.hid (HBx.out.trans (Bl.undrew hb1)); clear hb1; clear tk1)))
      all_goals
        have hbb : (z.testBit 16 == z.testBit 16) = true := by simp
        go_wp2_with fail
        go_ret
        exact ⟨rfl, HBq.out.trans HBx.out⟩
end Go.Proofs.Ytbncgjccmadkbaa
