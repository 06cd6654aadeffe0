/- The lead reference's Lead: a derivation. -/
import Derived.Test.YtpblamiiggglaaaLdF
import Derived.Test.YtpblamiiggglaaaOpW
import Derived.Test.YtpblamiiggglaaaRRankS
import Derived.Test.YtpblamiiggglaaaLdC
import Derived.Deep.LoopGhost
import Derived.Deep.RegionHeld3
import Derived.Deep.DeepCutAuto
import Derived.Deep.CutBlock
import Derived.BigQuiet
namespace Go.Proofs.Ytpblamiiggglaaa
open Go.RowKit

theorem reachm_any (g : Gr.Gm) (K : Nat) (l : List Gr.Sy) (Al : Option Addr) (ll cl : Nat) (u : List Int) (Aw : Option Addr) (lw cw f N bo c1 B0 bw c2 B4 : Nat) (rows rows4 : List RowD) (T W : Cf.Tb) (w : World) (hll : ll = l.length) (hml : ll ≤ 1000000) (hrl : RdP w (fun b => b < w.heap.size) Al (syRow l))
    (hlw : lw = u.length) (hmw : lw ≤ 1000) (hrw : Rd w w.heap.size Aw (ins u)) (hf : f ≤ lw) (hN : N ≤ 1000) (hT : Tab B0 (lw + 1) (.slice (some ⟨bo, 0, none⟩) N c1) rows T w) (hTl : rows.length = N) (hW : Tab B4 (lw + 1) (.slice (some ⟨bw, 0, none⟩) (2 * N) c2) rows4 W w) (hWl : rows4.length = 2 * N)
    (hg : Gr.Ok g) (hv : Wi.Lives g) (hs : Cf.Sound g u T) (hc : Cf.Closed g u T) (hsW : Cf.Sound (Wi.wild g) u W) (hcW : Cf.Closed (Wi.wild g) u W) (hgN : g.nons = (N : Int)) (hr : Ld.RowG g l) :
    Calls Try.prog 25 #[.slice Al ll cl, .slice Aw lw cw, .int .i64 (f : Int), .slice (some ⟨bo, 0, none⟩) N c1, .slice (some ⟨bw, 0, none⟩) (2 * N) c2, .int .i64 (N : Int)] w (RmPost K lw (Ld.mayB K g u l f) w) := by
  refine (reach17_any l Al ll cl u Aw lw cw f N bo c1 B0 bw c2 B4 rows rows4 T W w hll hml hrl hlw hmw hrw hf hN hT hTl hW hWl (rowG_non hr hgN)).mono ?_
  rintro e w' ⟨g7, c7, rfl, hrd, hb⟩
  obtain ⟨kz, _, kzl⟩ := hrd.bls0 (show lw < lw + 1 by omega)
  have hm := mayR_is hg hv hs hc hsW hcW hgN hr (f := f) (by omega) K
  refine ⟨g7, c7, _, _, rfl, kz, kzl, fun h => ?_, fun h => ?_, hb⟩
  · rw [← hm]; unfold mayR; rw [if_pos h]
  · rw [← hm]; unfold mayR; rw [if_neg h, hlw]
/-- The right side of a production, in memory. -/
theorem prs_rig {w : World} {B : Nat} {A : Option Addr} {ps : List Gr.Pr} (h : Prs w B A ps) {i : Nat} (hi : i < ps.length) :
    ∃ b off Ax cx, A = some ⟨b, off, none⟩ ∧ b < B ∧ Rd w B Ax (syRow (Ld.rig ps i)) ∧ w.cell? ⟨b, off + i * 2 + 1, none⟩ = some (.slice Ax (Ld.rig ps i).length cx) := by
  obtain ⟨b, off, Ax, cx, h1, h2, h3, _, h4⟩ := h.at_ hi
  rw [Ld.rig_at (List.getElem?_eq_getElem hi)]
  exact ⟨b, off, Ax, cx, h1, h2, h3, h4⟩
theorem lead_done {g : Gr.Gm} {u : List Int} {K q a : Nat} {dn : List Nat} (hm : Ld.mayB K g u [⟨true, g.start⟩] 0 = true) (h : (Ld.lead K g (factP g) u q a []).map (dn ++ ·) = Ld.lead K g (factP g) u 2000 0 [⟨true, g.start⟩]) : leadOf g u K = (ns dn, 0) := by
  unfold leadOf
  rw [if_pos hm, ← h, Ld.lead_end (a' := a) (by rfl)]
  simp
theorem lead_over {g : Gr.Gm} {u : List Int} {K a : Nat} {s : Gr.Sy} {r : List Gr.Sy} {dn : List Nat} (hs : s.non = true) (hm : Ld.mayB K g u [⟨true, g.start⟩] 0 = true) (h : (Ld.lead K g (factP g) u 0 a (s :: r)).map (dn ++ ·) = Ld.lead K g (factP g) u 2000 0 [⟨true, g.start⟩]) : leadOf g u K = ([], 5) := by
  unfold leadOf
  rw [if_pos hm, ← h, Ld.lead_big (Ld.nextOf_non hs)]
  rfl
theorem sel_best {K : Nat} {bo' : Option Nat} {bv : Int} {x : Nat} {mb : Bool} {X : Option Nat} (hbv : bv = bestI bo') (h1 : X = if mb = true ∧ (bo' = none ∨ K = 1) then some x else bo') : (if (mb && (decide (bv < 0) || decide (K = 1))) = true then (x : Int) else bv) = bestI X := by
  have h2 : (bv < 0) ↔ bo' = none := by rw [hbv]; exact bestI_neg
  have h3 : ((mb && (decide (bv < 0) || decide (K = 1))) = true) ↔ (mb = true ∧ (bo' = none ∨ K = 1)) := by
    rw [Bool.and_eq_true, Bool.or_eq_true, decide_eq_true_eq, decide_eq_true_eq, h2]
  rw [h1]
  by_cases h : mb = true ∧ (bo' = none ∨ K = 1)
  · rw [if_pos h, if_pos (h3.2 h)]; rfl
  · rw [if_neg h, if_neg (fun h' => h (h3.1 h'))]; exact hbv
theorem rl_q {q lo : Nat} (h : q + 1 + lo = 2000) : q + (lo + 1) = 2000 := by omega
theorem rl_l {ll lo k : Nat} (h : ll ≤ 1 + 8 * lo) (h0 : 0 < ll) (hk : k ≤ 8) : k + (ll - 1) ≤ 1 + 8 * (lo + 1) := by omega
theorem rl_j {j k L : Nat} (h : j + k = L) (h2 : j < L) : j + 1 + (k - 1) = L := by omega
theorem rl_g {j k L : Nat} (h : j + k = L) (h2 : j < L) : k - 1 < k := by omega
theorem rl_int : (Try.prog.info? 3).map (fun i => (i.zero, i.size, i.bytes)) = some (some (.int .i64 0), 1, 8) := by kernel_rfl

set_option maxRecDepth 100000 in
set_option maxHeartbeats 8000000 in
theorem rlead_yes (t n s : Int) (A : Option Addr) (len c : Nat) (ps : List Gr.Pr) (Aw : Option Addr) (lw cw : Nat) (u : List Int) (K : Nat) (w : World) (B : Nat) (hlen : len = ps.length) (hmax : len ≤ 9223372036854775807) (hr : PrsC w B A ps) (hlw : lw = u.length) (hmw : lw ≤ 1000000) (hrw : Rd w B Aw (ins u)) (hB : B ≤ w.heap.size) (hK : K ≤ 2) (hf : fitB ⟨t, n, s, ps⟩ u = true) :
    Calls Try.prog 12 #[.agg #[.int .i64 t, .int .i64 n, .int .i64 s, .slice A len c], .slice Aw lw cw, .int .i64 (K : Int)] w (LPost (leadOf ⟨t, n, s, ps⟩ u K) w) := by
  have HB0 : Hid (Bl w (w.alloc (.cells #[.int .i64 t, .int .i64 n, .int .i64 s, .slice A len c] 24))) := (Bl.refl w).alloc _
  have HFt := Lib.hid (fun (wx : World) (hb : Bl w wx) => rfit_any t n s A len c ps Aw lw cw u wx B hlen hmax (hr.bl hB hb).prs hlw (by omega) (hrw.bl hB hb) (Nat.le_trans hB hb.size))
  have HK0 := Lib.hid (Bk.new w 24 #[.int .i64 t, .int .i64 n, .int .i64 s, .slice A len c])
  rw [hf] at HFt
  obtain ⟨hok, hv, h24⟩ := fit_good hf
  have HOk := Lib.hid hok
  have HV := Lib.hid hv
  have hw24 : lw ≤ 24 := by omega
  have HP : Hid (∀ wx, Bl w wx → PrsC wx B A ps) := fun _ hb => hr.bl hB hb
  have HX : Hid (∀ wx, Bl w wx → Rd wx B Aw (ins u)) := fun _ hb => hrw.bl hB hb
  have HL := Lib.hid hlw
  have HLn := Lib.hid hlen
  have hpos : 0 < len := by have h : 0 < ps.length := Wi.lives_some hok hv; omega
  have hl60 : len ≤ 60 := by have := hok.2.2.2.2.2.2.1; have h : ps.length ≤ 60 := this; omega
  have hn1 := hok.2.2.1
  have hn24 := hok.2.2.2.1
  simp only at hn1 hn24
  obtain ⟨N, rfl⟩ : ∃ N : Nat, n = (N : Int) := ⟨n.toNat, by omega⟩
  have hst0 : 0 ≤ s := hok.2.2.2.2.1
  have hst1 : s < (N : Int) := hok.2.2.2.2.2.1
  have HRow0 : Hid (Ld.RowG ⟨t, (N : Int), s, ps⟩ [⟨true, s⟩]) := fun x hx => by rw [List.mem_singleton] at hx; subst hx; exact ⟨hst0, fun _ => hst1, fun e => by cases e⟩
  have hk0 : ¬ ((K : Int) < 0) := by omega
  have hk2 : ¬ ((2 : Int) < (K : Int)) := by omega
  have HKK := Lib.hid hK
  obtain ⟨i0, hi, hz0, hz1, hz2⟩ := info_parts rl_int
  obtain ⟨i1, hj, hy0, hy1, hy2⟩ := info_parts tp_sym
  clear hf hr hrw hlen hlw hok hv h24
  go_enter Try.func12, Try.ntmps12
  go_wp2_with fail
  refine (HFt.out _ HB0.out).mono ?_
  rintro e w1 ⟨rfl, hb1⟩
  have HB1 := Lib.hid (HB0.out.trans hb1)
  have HK1 := Lib.hid (HK0.out.bl hb1)
  have k0 : w1.cell? ⟨w.heap.size, 0, none⟩ = some (.int .i64 t) := HK1.out.cell 0
  have k1 : w1.cell? ⟨w.heap.size, 1, none⟩ = some (.int .i64 (N : Int)) := HK1.out.cell 1
  have k2 : w1.cell? ⟨w.heap.size, 2, none⟩ = some (.int .i64 s) := HK1.out.cell 2
  have k3 : w1.cell? ⟨w.heap.size, 3, none⟩ = some (.slice A len c) := HK1.out.cell 3
  have kl := HK1.out.lt
  clear hb1 HB0 HK0 HFt
  go_wp2_with fail
  refine (spans_any t (N : Int) s A len c ps Aw lw cw u w1 B HLn.out ((okB_iff _).2 HOk.out) (HP.out _ HB1.out).prs HL.out (by omega) (HX.out _ HB1.out) (Nat.le_trans hB HB1.out.size)).mono ?_
  intro e w2 hS
  obtain ⟨bo, co, B2, rows, T, he, hrows, htab, hsnd, hcls, hb2⟩ := hS.lit (N := N) (m := lw + 1) rfl (by rw [HL.out]) (by omega)
  subst he
  have HT2 := Lib.hid htab
  have HSnd := Lib.hid hsnd
  have HCls := Lib.hid hcls
  have HRl := Lib.hid hrows
  have HB2 := Lib.hid (HB1.out.trans hb2)
  have HK2 := Lib.hid (HK1.out.bl hb2)
  clear k0 k1 k2 k3 kl hS htab hsnd hcls hrows hb2 HK1
  have k0 : w2.cell? ⟨w.heap.size, 0, none⟩ = some (.int .i64 t) := HK2.out.cell 0
  have k1 : w2.cell? ⟨w.heap.size, 1, none⟩ = some (.int .i64 (N : Int)) := HK2.out.cell 1
  have k2 : w2.cell? ⟨w.heap.size, 2, none⟩ = some (.int .i64 s) := HK2.out.cell 2
  have k3 : w2.cell? ⟨w.heap.size, 3, none⟩ = some (.slice A len c) := HK2.out.cell 3
  have kl := HK2.out.lt
  go_wp2_with fail
  refine (wild_any t (N : Int) s A len c ps w2 B HLn.out HOk.out hpos (HP.out _ HB2.out) (Nat.le_trans hB HB2.out.size)).mono ?_
  rintro e w3 ⟨A3, c3, rfl, hp3, hb3⟩
  have HP3 := Lib.hid hp3
  have HB3 := Lib.hid (HB2.out.trans hb3)
  have HK3 := Lib.hid (HK2.out.bl hb3)
  have HT3 := Lib.hid (HT2.out.bl_ hb3)
  clear k0 k1 k2 k3 kl hp3 hb3 HT2 HK2
  go_wp2_with fail
  refine (spans_gen t (2 * (N : Int)) ((N : Int) + s) A3 (Wi.wild ⟨t, (N : Int), s, ps⟩).prods.length c3 (Wi.wild ⟨t, (N : Int), s, ps⟩).prods Aw lw cw u w3 w3.heap.size rfl ⟨by omega, by omega, by have := Wi.wild_len HOk.out; omega⟩ (fun p hp => Wi.wild_small HOk.out hp) HP3.out HL.out (by omega) ((HX.out _ HB3.out).more (Nat.le_trans hB HB3.out.size)) (Nat.le_refl _)).mono ?_
  intro e w4 hS
  obtain ⟨bw, cw2, B4, rows4, W, he, hrows, htab, hsnd, hcls, hb4⟩ := hS.lit (N := 2 * N) (m := lw + 1) (by show (2 * (N : Int)).toNat = 2 * N; omega) (by rw [HL.out]) (by omega)
  subst he
  have HW4 := Lib.hid htab
  have HSndW : Hid (Cf.Sound (Wi.wild ⟨t, (N : Int), s, ps⟩) u W) := hsnd
  have HClsW : Hid (Cf.Closed (Wi.wild ⟨t, (N : Int), s, ps⟩) u W) := hcls
  have HRl4 := Lib.hid hrows
  have HB4 := Lib.hid (HB3.out.trans hb4)
  have HK4 := Lib.hid (HK3.out.bl hb4)
  have HT4 := Lib.hid (HT3.out.bl_ hb4)
  clear hS htab hsnd hcls hrows hb4 HP3 HT3 HK3
  have k0 : w4.cell? ⟨w.heap.size, 0, none⟩ = some (.int .i64 t) := HK4.out.cell 0
  have k1 : w4.cell? ⟨w.heap.size, 1, none⟩ = some (.int .i64 (N : Int)) := HK4.out.cell 1
  have k2 : w4.cell? ⟨w.heap.size, 2, none⟩ = some (.int .i64 s) := HK4.out.cell 2
  have k3 : w4.cell? ⟨w.heap.size, 3, none⟩ = some (.slice A len c) := HK4.out.cell 3
  have kl := HK4.out.lt
  go_wp2_with fail
  refine (rranks_any t (N : Int) s A len c ps true w4 B HLn.out hmax (HP.out _ HB4.out).prs (Nat.le_trans hB HB4.out.size)).mono ?_
  rintro e w5 ⟨Af, lf, cf, rfl, hlf, hrf, hb5⟩
  have HLf := Lib.hid hlf
  have HRf := Lib.hid hrf
  have HB5 := Lib.hid (HB4.out.trans hb5)
  have HK5 := Lib.hid (HK4.out.bl hb5)
  have HT5 := Lib.hid (HT4.out.bl_ hb5)
  have HW5 := Lib.hid (HW4.out.bl_ hb5)
  clear k0 k1 k2 k3 kl hlf hrf hb5 HT4 HK4 HW4
  have k1 : w5.cell? ⟨w.heap.size, 1, none⟩ = some (.int .i64 (N : Int)) := HK5.out.cell 1
  have k2 : w5.cell? ⟨w.heap.size, 2, none⟩ = some (.int .i64 s) := HK5.out.cell 2
  have k3 : w5.cell? ⟨w.heap.size, 3, none⟩ = some (.slice A len c) := HK5.out.cell 3
  have kl := HK5.out.lt
  -- what reach tells, anywhere behind
  have HRch : Hid (∀ (wx : World) (l : List Gr.Sy) (Al : Option Addr) (ll cl f : Nat), Bl w5 wx → ll = l.length → ll ≤ 1000000 → RdP wx (fun b => b < wx.heap.size) Al (syRow l) → f ≤ lw → Ld.RowG ⟨t, (N : Int), s, ps⟩ l →
      Calls Try.prog 25 #[.slice Al ll cl, .slice Aw lw cw, .int .i64 (f : Int), .slice (some ⟨bo, 0, none⟩) N co, .slice (some ⟨bw, 0, none⟩) (2 * N) cw2, .int .i64 (N : Int)] wx (RmPost K lw (Ld.mayB K ⟨t, (N : Int), s, ps⟩ u l f) wx)) :=
    fun wx l Al ll cl f hb hll hml hrl hf hrg => reachm_any ⟨t, (N : Int), s, ps⟩ K l Al ll cl u Aw lw cw f N bo co B2 bw cw2 B4 rows rows4 T W wx hll hml hrl HL.out (by omega) ((HX.out _ (HB5.out.trans hb)).more (Nat.le_trans hB (HB5.out.trans hb).size)) hf (by omega) (HT5.out.bl_ hb) HRl.out (HW5.out.bl_ hb) HRl4.out HOk.out HV.out HSnd.out HCls.out HSndW.out HClsW.out rfl hrg
  have HR0 : Hid (Calls Try.prog 25 #[.slice (some ⟨w5.heap.size, 0, none⟩) 1 1, .slice Aw lw cw, .int .i64 0, .slice (some ⟨bo, 0, none⟩) N co, .slice (some ⟨bw, 0, none⟩) (2 * N) cw2, .int .i64 (N : Int)] (w5.alloc (.cells #[.bool true, .int .i64 s] 41)) (RmPost K lw (Ld.mayB K ⟨t, (N : Int), s, ps⟩ u [⟨true, s⟩] 0) (w5.alloc (.cells #[.bool true, .int .i64 s] 41)))) :=
    HRch.out _ [⟨true, s⟩] (some ⟨w5.heap.size, 0, none⟩) 1 1 0 ((Bl.refl w5).alloc _) rfl (by omega) (rd_lit w5 #[.bool true, .int .i64 s] 41 _ _ _ rfl (by rw [World.size_alloc]; omega) rfl) (Nat.zero_le _) HRow0.out
  have HTd0 : Hid (RdT (w5.alloc (.cells #[.bool true, .int .i64 s] 41)) 41 (some ⟨w5.heap.size, 0, none⟩) (syRow [⟨true, s⟩])) := by
    have h := World.ownsRow_lit (base := w5.heap.size) (e := 41) (size := 2) w5 #[.bool true, .int .i64 s] 1 (Nat.le_refl _) (by simp [maxLen]) rfl
    exact RdT.of_own h
  go_wp2_with fail
  refine HR0.out.mono ?_
  rintro e w7 ⟨g7, c7, az, oz, rfl, kz, kzl, hm2, hm1, hb7⟩
  have HB7 : Hid (Bl w5 w7) := ((Bl.refl w5).alloc _).trans hb7
  have HTd7 := Lib.hid (HTd0.out.keep (.of_bl hb7))
  have HM2 := Lib.hid hm2
  have HM1 := Lib.hid hm1
  have HKs : Hid ((K = 2 ∧ ¬ (K : Int) < 2 ∧ ((K : Int) == 2) = true) ∨ (K ≠ 2 ∧ (K : Int) < 2 ∧ ((K : Int) == 2) = false)) := by
    have h := HKK.out
    rcases Nat.lt_or_ge K 2 with h2 | h2
    · exact .inr ⟨by omega, by omega, by rw [beq_eq_false_iff_ne]; omega⟩
    · exact .inl ⟨by omega, by omega, by rw [beq_iff_eq]; omega⟩
  clear hm2 hm1 hb7 HR0 HTd0
  generalize hmb : Ld.mayB K ⟨t, (N : Int), s, ps⟩ u [⟨true, s⟩] 0 = mb at *
  have HMb := Lib.hid hmb
  clear hmb
  have hlw0 : (lw : Int) < (lw : Int) + 1 := by omega
  have hlw1 : (0 : Int) ≤ (lw : Int) := by omega
  go_upto_region 8 with fail
  go_cut [2, 76] (fun k v wx => k = .int .i64 (K : Int) ∧ v = .bool (!mb) ∧ wx = w7)
  case first =>
    rcases HKs.out with ⟨q0, q1, q2⟩ | ⟨q0, q1, q2⟩
    · obtain rfl := HM2.out q0
      have HQ : Hid ((2 : Int) = (K : Int)) := by unfold Hid; omega
      clear q0
      cases oz <;> (go_wp2_with fail; go_meet; first | exact ⟨rfl, rfl, rfl⟩ | exact ⟨congrArg (Value.int .i64) HQ.out, rfl, rfl⟩)
    · obtain rfl := HM1.out q0
      cases az <;> (go_wp2_with fail; go_meet; exact ⟨rfl, rfl, rfl⟩)
  case rest =>
    obtain ⟨rfl, rfl, rfl⟩ := hcut
    obtain ⟨w8, hw8⟩ : ∃ w8 : World, w8 = wc := ⟨_, rfl⟩
    subst hw8
    cases mb with
    | false =>
      have HFin : Hid (leadOf ⟨t, (N : Int), s, ps⟩ u K = ([], 11)) := by
        unfold Hid leadOf
        show (if Ld.mayB K ⟨t, (N : Int), s, ps⟩ u [⟨true, s⟩] 0 = true then _ else _) = _
        rw [HMb.out]
        exact if_neg (by decide)
      go_wp2_with fail
      go_ret2
      rw [HFin.out]
      exact ⟨none, 0, rfl, Nat.le_refl _, Rd.nil, HB5.out.trans HB7.out⟩
    | true =>
      have HTr : Hid (Ld.mayB K ⟨t, (N : Int), s, ps⟩ u [⟨true, s⟩] 0 = true) := HMb.out
      have HO0 : Hid ((w8.alloc (.cells #[] 3)).ownsRow w8.heap.size 3 1 (.slice (some ⟨w8.heap.size, 0, none⟩) 0 0) 0 (ins (ns []))) :=
        World.ownsRow_lit (base := w8.heap.size) (e := 3) (size := 1) w8 #[] 0 (Nat.le_refl _) (by simp [maxLen]) rfl
      have HM0 : Hid (Ld.May K ⟨t, (N : Int), s, ps⟩ u [⟨true, s⟩] 0) := Ld.mayB_iff.1 HTr.out
      have HBc0 : Hid (Bl w8 (w8.alloc (.cells #[] 3))) := (Bl.refl w8).alloc _
      have HTd1 := Lib.hid (HTd7.out.keep (.of_bl HBc0.out))
      have HB8 := Lib.hid (HB5.out.trans HB7.out)
      have HK8 := Lib.hid (HK5.out.bl HB7.out)
      have HRf8 := Lib.hid (rd_on HRf.out HB7.out)
      have HRch8 : Hid (∀ (wx : World) (l : List Gr.Sy) (Al : Option Addr) (ll cl f : Nat), Bl w8 wx → ll = l.length → ll ≤ 1000000 → RdP wx (fun b => b < wx.heap.size) Al (syRow l) → f ≤ lw → Ld.RowG ⟨t, (N : Int), s, ps⟩ l →
          Calls Try.prog 25 #[.slice Al ll cl, .slice Aw lw cw, .int .i64 (f : Int), .slice (some ⟨bo, 0, none⟩) N co, .slice (some ⟨bw, 0, none⟩) (2 * N) cw2, .int .i64 (N : Int)] wx (RmPost K lw (Ld.mayB K ⟨t, (N : Int), s, ps⟩ u l f) wx)) :=
        fun wx l Al ll cl f hb => HRch.out wx l Al ll cl f (HB7.out.trans hb)
      clear kz kzl HM2 HM1 HTd7 HMb HRch k1 k2 k3 kl
      go_wp2_with fail
      go_loopg [11, 14, 15] 32001 (fun gk v o p wr => ∃ (dn : List Nat) (a q : Nat) (l : List Gr.Sy) (At : Option Addr) (ll ct : Nat) (Ao : Option Addr) (lo co' : Nat), gk = 16 * q + ll ∧ q + lo = 2000 ∧ a ≤ lw ∧ ll ≤ 1 + 8 * lo ∧ ll ≤ ct ∧ v = .slice At ll ct ∧ o = .slice Ao lo co' ∧ p = .int .i64 (a : Int) ∧ Hid (ll = l.length) ∧ Hid (lo = dn.length) ∧ lo ≤ co' ∧
        Hid (Ld.RowG ⟨t, (N : Int), s, ps⟩ l) ∧ Hid (Ld.May K ⟨t, (N : Int), s, ps⟩ u l a) ∧ Hid (RdT wr 41 At (syRow l)) ∧ Hid (Bl w8 wr) ∧ Hid (wr.ownsRow w8.heap.size 3 1 (.slice Ao lo co') lo (ins (ns dn))) ∧
        Hid ((Ld.lead K ⟨t, (N : Int), s, ps⟩ (factP ⟨t, (N : Int), s, ps⟩) u q a l).map (dn ++ ·) = Ld.lead K ⟨t, (N : Int), s, ps⟩ (factP ⟨t, (N : Int), s, ps⟩) u 2000 0 [⟨true, s⟩]))
      case atStart => exact ⟨[], 0, 2000, [⟨true, s⟩], _, 1, 1, _, 0, 0, rfl, rfl, Nat.zero_le _, by omega, by omega, rfl, rfl, rfl, rfl, rfl, by omega, HRow0.out, HM0.out, HTd1.out, HBc0.out, HO0.out, by unfold Hid; simp⟩
      case round =>
        obtain ⟨dn, a, q, l, At, ll, ct, Ao, lo, co', hgk, hq, ha, hll, hct, rfl, rfl, rfl, HLl, HLo, hco, HRw, HMy, HTd, HBr, HOw, HLd⟩ := hrel
        have HBw := Lib.hid (HB8.out.trans HBr.out)
        have HKr := Lib.hid (HK8.out.bl HBr.out)
        have k0 : wr.cell? ⟨w.heap.size, 0, none⟩ = some (.int .i64 t) := HKr.out.cell 0
        have k1 : wr.cell? ⟨w.heap.size, 1, none⟩ = some (.int .i64 (N : Int)) := HKr.out.cell 1
        have k2 : wr.cell? ⟨w.heap.size, 2, none⟩ = some (.int .i64 s) := HKr.out.cell 2
        have k3 : wr.cell? ⟨w.heap.size, 3, none⟩ = some (.slice A len c) := HKr.out.cell 3
        have kl := HKr.out.lt
        cases l with
        | nil =>
          have hz : ll = 0 := HLl.out
          subst hz
          have HFin : Hid (leadOf ⟨t, (N : Int), s, ps⟩ u K = (ns dn, 0)) := lead_done HTr.out HLd.out
          go_wp2_with fail
          go_ret2
          rw [HFin.out]
          exact ⟨Ao, co', by show _ = Ending.returned (.tuple #[.slice Ao (ns dn).length co', .int .i64 ((0 : Nat) : Int)]); rw [ns_len, HLo.out]; rfl, by rw [ns_len, ← HLo.out]; exact hco, Rd.own HOw.out, HBw.out⟩
        | cons s1 r =>
          obtain ⟨wo, hwo⟩ : ∃ wo : World, wo = wr := ⟨_, rfl⟩
          subst hwo
          have hlr : ll = r.length + 1 := HLl.out
          obtain ⟨bt, ot, hAt, hbt, t0, t1⟩ := HTd.out.rd.sym (i := 0) (by simp)
          subst hAt
          have t0 : wo.cell? ⟨bt, ot, none⟩ = some (.bool s1.non) := by simpa using t0
          have t1 : wo.cell? ⟨bt, ot + 1, none⟩ = some (.int .i64 s1.n) := by simpa using t1
          have hl0 : 0 < ll := by omega
          have HLr : Hid (r.length = ll - 1) := by unfold Hid; omega
          have HRb : Hid (Ld.RowG ⟨t, (N : Int), s, ps⟩ r) := fun x hx => HRw.out x (List.mem_cons_of_mem _ hx)
          have HS1 := Lib.hid (HRw.out s1 (List.mem_cons_self ..))
          have HCut : Hid (RdT wo 41 (if ct = 1 then (some ⟨bt, ot, none⟩ : Option Addr) else (some (⟨bt, ot, none⟩ : Addr)).map (·.add (1 * 2))) (syRow r)) := HTd.out.sy_cut (k := 1) (cap := ct) (by show r.length + 1 ≤ ct; omega)
          have hsl := fun (wx : World) => run_slice_tail (P := Try.prog) (t := 42) (e := 41) (size := 2) Try.underlying42 tp_size (some ⟨bt, ot, none⟩) ll ct 1 1 rfl hl0 wx
          generalize (if ct = 1 then (some ⟨bt, ot, none⟩ : Option Addr) else (some (⟨bt, ot, none⟩ : Addr)).map (·.add (1 * 2))) = Ay at HCut hsl
          obtain ⟨sn, sv⟩ := s1
          simp only at t0 t1
          clear hlr HLl HRw
          cases sn with
          | false =>
            have HTk := Lib.hid (Ld.may_tok (s := ⟨false, sv⟩) (r := r) rfl (show a ≤ u.length by have := HL.out; omega) HMy.out)
            have HLd2 := HLd
            rw [lead_tok rfl] at HLd2
            rw [← HL.out] at HTk HLd2
            have HS := Lib.hid (Bk.new wo 41 #[.bool false, .int .i64 sv])
            have s0 : (wo.alloc (.cells #[.bool false, .int .i64 sv] 41)).cell? ⟨wo.heap.size, 0, none⟩ = some (.bool false) := HS.out.cell 0
            have HCut2 := Lib.hid (HCut.out.keep (.of_bl ((Bl.refl wo).alloc (.cells #[.bool false, .int .i64 sv] 41))))
            by_cases hal : a < lw
            · rw [if_pos hal] at HTk HLd2
              have hali : (a : Int) < (lw : Int) := by omega
              go_wp2_with fail
              go_roundg (16 * q + (ll - 1))
              case rel => exact ⟨dn, a + 1, q, r, _, ll - 1, ct - 1, Ao, lo, co', rfl, hq, by omega, by omega, by omega, rfl, rfl, by go_num, HLr.out.symm, HLo.out, hco, HRb.out, HTk.out.2.1, HCut2.out, HBr.out.alloc _, HOw.out.alloc _, HLd2.out⟩
              case measure => omega
            · rw [if_neg hal] at HTk HLd2
              have hali : ¬ ((a : Int) < (lw : Int)) := by omega
              go_wp2_with fail
              go_roundg (16 * q + (ll - 1))
              case rel => exact ⟨dn, a, q, r, _, ll - 1, ct - 1, Ao, lo, co', rfl, hq, by omega, by omega, by omega, rfl, rfl, rfl, HLr.out.symm, HLo.out, hco, HRb.out, HTk.out.2.1, HCut2.out, HBr.out.alloc _, HOw.out.alloc _, HLd2.out⟩
              case measure => omega
          | true =>
            obtain ⟨m, rfl⟩ : ∃ m : Nat, sv = (m : Int) := ⟨sv.toNat, (Int.toNat_of_nonneg HS1.out.1).symm⟩
            have hmN : m < N := by have h := HS1.out.2.1 rfl; simp only at h; omega
            have HS := Lib.hid (Bk.new wo 41 #[.bool true, .int .i64 (m : Int)])
            have HBs : Hid (Bl wo (wo.alloc (.cells #[.bool true, .int .i64 (m : Int)] 41))) := (Bl.refl wo).alloc _
            have s0 : (wo.alloc (.cells #[.bool true, .int .i64 (m : Int)] 41)).cell? ⟨wo.heap.size, 0, none⟩ = some (.bool true) := HS.out.cell 0
            have s1 : (wo.alloc (.cells #[.bool true, .int .i64 (m : Int)] 41)).cell? ⟨wo.heap.size, 1, none⟩ = some (.int .i64 (m : Int)) := HS.out.cell 1
            by_cases hbig : lo = 2000
            · have hq0 : q = 0 := by omega
              subst hq0
              have HFin : Hid (leadOf ⟨t, (N : Int), s, ps⟩ u K = ([], 5)) := lead_over rfl HTr.out HLd.out
              subst hbig
              go_wp2_with fail
              go_ret2
              rw [HFin.out]
              exact ⟨none, 0, rfl, Nat.le_refl _, Rd.nil, HBw.out.alloc _⟩
            · have hbe : ((lo : Int) == 2000) = false := by rw [beq_eq_false_iff_ne]; omega
              obtain ⟨q', rfl⟩ : ∃ q', q = q' + 1 := ⟨q - 1, by omega⟩
              have hau : a ≤ u.length := by have := HL.out; omega
              obtain ⟨i9, hpi⟩ := Ld.pick_is HOk.out HV.out (factP_fits HOk.out HV.out) (s := ⟨true, (m : Int)⟩) rfl (fun x hx => by rcases List.mem_cons.1 hx with rfl | hx; exact HS1.out; exact HRb.out x hx) HMy.out
              have HLd2 := Lib.hid (lead_map (s := ⟨true, (m : Int)⟩) rfl hpi HLd.out)
              obtain ⟨⟨p9, hp9, hpl9⟩, hm9⟩ := Ld.pick_some hpi
              have HR9 := Lib.hid (Ld.RowG.turn HOk.out (fun x hx => by rcases List.mem_cons.1 hx with rfl | hx; exact HS1.out; exact HRb.out x hx) (s := ⟨true, (m : Int)⟩) (r := r) hp9)
              have HM9 := Lib.hid hm9
              have HL9 : Hid ((Ld.rig ps i9).length ≤ 8) := by
                have h : Ld.rig ps i9 = p9.right := Ld.rig_at hp9
                unfold Hid
                rw [h]
                exact (HOk.out.2.2.2.2.2.2.2 p9 (List.mem_of_getElem? hp9)).2.2.1
              have hi9 : i9 < ps.length := (List.getElem?_eq_some_iff.1 hp9).1
              rw [Ld.pick_best (factP_fits HOk.out HV.out) (by omega) (show ((m : Int)) < (N : Int) by omega), Int.toNat_natCast] at hpi
              have HCanLt := Lib.hid (fun x => canOf_lt (K := K) (factP_fits HOk.out HV.out) (b := decide (a = u.length)) (m := m) (show ((m : Int)) < (N : Int) by omega) (x := x))
              have HCan1 : Hid (decide (K = 2 ∧ a = lw) = false → Ld.canOf K ps (factP ⟨t, (N : Int), s, ps⟩ m) (decide (a = u.length)) (m : Int) = Ld.ofL ps (m : Int)) := fun h => by
                unfold Ld.canOf
                rw [if_neg]
                rintro ⟨h1, h2⟩
                have h2 := of_decide_eq_true h2
                rw [← HL.out] at h2
                exact of_decide_eq_false h ⟨h1, h2⟩
              have HCan2 : Hid (decide (K = 2 ∧ a = lw) = true → Ld.canOf K ps (factP ⟨t, (N : Int), s, ps⟩ m) (decide (a = u.length)) (m : Int) = [factP ⟨t, (N : Int), s, ps⟩ m]) := fun h => by
                have h := of_decide_eq_true h
                unfold Ld.canOf
                rw [if_pos ⟨h.1, decide_eq_true (by rw [← HL.out]; exact h.2)⟩]
              have HPi : Hid (Ld.bestOf K (fun i => Ld.mayB K ⟨t, (N : Int), s, ps⟩ u (Ld.rig ps i ++ r) a) (Ld.canOf K ps (factP ⟨t, (N : Int), s, ps⟩ m) (decide (a = u.length)) (m : Int)) = some i9) := hpi
              have HCanLt : Hid (∀ x, x ∈ Ld.canOf K ps (factP ⟨t, (N : Int), s, ps⟩ m) (decide (a = u.length)) (m : Int) → x < ps.length) := HCanLt.out
              have HCanN : Hid ((Ld.canOf K ps (factP ⟨t, (N : Int), s, ps⟩ m) (decide (a = u.length)) (m : Int)).length ≤ 60) := by
                unfold Hid Ld.canOf
                split
                · show 1 ≤ 60; omega
                · have h := ofL_len ps (m : Int); have := HLn.out; omega
              generalize Ld.canOf K ps (factP ⟨t, (N : Int), s, ps⟩ m) (decide (a = u.length)) (m : Int) = can at HPi HCanLt HCan1 HCan2 HCanN
              have HOf := Lib.hid (fun (wx : World) (hb : Bl w wx) => rof_any t (N : Int) s (m : Int) A len c ps wx B HLn.out (by omega) (HP.out _ hb).prs (Nat.le_trans hB hb.size))
              rw [ofK_all] at HOf
              clear hpi hp9 hpl9 hm9 HMy HLd HRow0
              go_wp2_with fail
              refine (HOf.out _ (HBw.out.trans HBs.out)).mono ?_
              rintro e wa ⟨Ac, cc, rfl, hcc, hoc, hba⟩
              have HBa := Lib.hid (HBs.out.trans hba)
              have HSa := Lib.hid (HS.out.bl hba)
              have HOc := Lib.hid hoc
              rw [ns_len] at HOc
              generalize hlc : (Ld.ofL ps (m : Int)).length = lc at *
              have HLc := Lib.hid hlc
              clear hlc hcc hoc hba HOf s0 s1 t0 t1
              have s1 : wa.cell? ⟨wo.heap.size, 1, none⟩ = some (.int .i64 (m : Int)) := HSa.out.cell 1
              have sl := HSa.out.lt
              go_upto_region 21 with fail
              go_cut [2, 15, 109] (fun k p v wx => k = .int .i64 (K : Int) ∧ p = .int .i64 (a : Int) ∧ v = .bool (decide (K = 2 ∧ a = lw)) ∧ wx = wa)
              case first =>
                rcases HKs.out with ⟨q0, q1, q2⟩ | ⟨q0, q1, q2⟩
                · have HQ : Hid ((2 : Int) = (K : Int)) := by unfold Hid; omega
                  by_cases hal : a = lw
                  · have hD : decide (K = 2 ∧ a = lw) = true := decide_eq_true ⟨q0, hal⟩
                    have HDd := Lib.hid hD
                    have hb2 : ((a : Int) == (lw : Int)) = true := by rw [beq_iff_eq]; omega
                    have HQ2 : Hid ((lw : Int) = (a : Int)) := by unfold Hid; omega
                    clear q0 hal hD
                    go_wp2_with fail
                    go_meet
                    exact ⟨by first | exact rfl | exact congrArg (Value.int .i64) HQ.out, by first | exact rfl | exact congrArg (Value.int .i64) HQ2.out, by rw [HDd.out], rfl⟩
                  · have hD : decide (K = 2 ∧ a = lw) = false := decide_eq_false (fun h => hal h.2)
                    have HDd := Lib.hid hD
                    have hb2 : ((a : Int) == (lw : Int)) = false := by rw [beq_eq_false_iff_ne]; omega
                    clear q0 hal hD
                    go_wp2_with fail
                    go_meet
                    exact ⟨by first | exact rfl | exact congrArg (Value.int .i64) HQ.out, rfl, by rw [HDd.out], rfl⟩
                · have hD : decide (K = 2 ∧ a = lw) = false := decide_eq_false (fun h => q0 h.1)
                  have HDd := Lib.hid hD
                  clear q0 hD
                  go_wp2_with fail
                  go_meet
                  exact ⟨rfl, rfl, by rw [HDd.out], rfl⟩
              case rest =>
                obtain ⟨rfl, rfl, rfl, hwc⟩ := hcut
                subst hwc
                obtain ⟨wa, hwa⟩ : ∃ wa : World, wa = wc := ⟨_, rfl⟩
                subst hwa
                generalize decide (K = 2 ∧ a = lw) = dE at *
                have HRa := Lib.hid (rd_on HRf8.out (HBr.out.trans HBa.out))
                have HKa := Lib.hid (HK8.out.bl (HBr.out.trans HBa.out))
                have ka3 : wa.cell? ⟨w.heap.size, 3, none⟩ = some (.slice A len c) := HKa.out.cell 3
                go_upto_if 109 with fail
                go_cut [17] (fun v wx => ∃ (Ad : Option Addr) (cd : Nat), v = .slice Ad can.length cd ∧ Hid (Rd wx wx.heap.size Ad (ins (ns can))) ∧ Hid (Bl wo wx))
                case first =>
                  cases dE with
                  | false =>
                    have HCn := Lib.hid (HCan1.out rfl)
                    go_wp2_with fail
                    go_meet
                    refine ⟨Ac, cc, ?_, ?_, HBa.out⟩
                    · rw [HCn.out, ns_len]
                    · rw [HCn.out]; exact Rd.own HOc.out
                  | true =>
                    have hcan := HCan2.out rfl
                    have hjf : m < (factsOf true ⟨t, (N : Int), s, ps⟩).length := by
                      rw [factsOf_len ((okB_iff _).2 HOk.out)]
                      show m < (N : Int).toNat
                      omega
                    obtain ⟨bf, of_, hAf, hbf, f0, f1⟩ := HRa.out.fact hjf
                    rw [fact_prod HOk.out hjf] at f1
                    subst hAf
                    have hmN1 : (m : Int) < (lf : Int) := by rw [HLf.out, factsOf_len ((okB_iff _).2 HOk.out)]; show (m : Int) < (((N : Int).toNat : Nat) : Int); omega
                    have hm0 : (0 : Int) ≤ (m : Int) := by omega
                    have HCn := Lib.hid hcan
                    clear hcan f0 hjf
                    go_wp2_with fail
                    go_meet
                    exact ⟨some ⟨wa.heap.size, 0, none⟩, 1, by rw [HCn.out]; rfl, by rw [HCn.out]; exact rd_lit wa _ _ _ _ _ rfl (by rw [World.size_alloc]; omega) rfl, HBa.out.alloc _⟩
                case rest =>
                  obtain ⟨Ad, cd, rfl, HCd, HBd⟩ := hcut
                  obtain ⟨wb, hwb⟩ : ∃ wb : World, wb = wc := ⟨_, rfl⟩
                  subst hwb
                  have HPs := Lib.hid (fun (wx : World) (hb : Bl wb wx) (i : Nat) (hi : i < ps.length) => prs_rig (HP.out wx (HBw.out.trans (HBd.out.trans hb))).prs hi)
                  have HKb := Lib.hid (HK8.out.bl (HBr.out.trans HBd.out))
                  have HCb := Lib.hid (HCut.out.keep (.of_bl HBd.out))
                  have hlr1 : ll - 1 ≤ 16001 := by omega
                  clear HCan1 HCan2 HRa HKa ka3 HOc HLc HSa s1 sl k0 k1 k2 k3 kl HKr HTd
                  go_wp2_with fail
                  go_loopg [18, 19] can.length (fun gk b i wr => ∃ (j : Nat) (bo' : Option Nat) (bv : Int), j + gk = can.length ∧ b = .int .i64 bv ∧ i = .int .i64 (j : Int) ∧ Hid (bv = bestI bo') ∧ Hid (Ld.bestOf K (fun i => Ld.mayB K ⟨t, (N : Int), s, ps⟩ u (Ld.rig ps i ++ r) a) (can.take j) = bo') ∧ Hid (Bl wb wr))
                  case atStart => exact ⟨0, none, -1, by omega, rfl, rfl, rfl, Ld.best_nil _ _, Bl.refl _⟩
                  case round =>
                    obtain ⟨j, bo', bv, hjg, rfl, rfl, HBv, HBo, HBj⟩ := hrel
                    have HJg := Lib.hid hjg
                    have HKj := Lib.hid (HKb.out.bl HBj.out)
                    have k1 : wr.cell? ⟨w.heap.size, 1, none⟩ = some (.int .i64 (N : Int)) := HKj.out.cell 1
                    have k3 : wr.cell? ⟨w.heap.size, 3, none⟩ = some (.slice A len c) := HKj.out.cell 3
                    have kl := HKj.out.lt
                    by_cases hjl : j < can.length
                    · have hjn : j < (ns can).length := by rw [ns_len]; exact hjl
                      obtain ⟨bc, oc, hAd, hbc, y0⟩ := (rd_on HCd.out HBj.out).int hjn
                      have hx : can[j] < ps.length := HCanLt.out _ (List.getElem_mem hjl)
                      have hxv : (ns can)[j] = (can[j] : Int) := by simp [ns]
                      rw [hxv] at y0
                      have HBn := Lib.hid (Ld.best_snoc K (fun i => Ld.mayB K ⟨t, (N : Int), s, ps⟩ u (Ld.rig ps i ++ r) a) (can.take j) can[j])
                      rw [← List.take_succ_eq_append_getElem hjl, HBo.out] at HBn
                      clear hxv hjn
                      generalize can[j] = x at *
                      have HJl := Lib.hid hjl
                      have hcn : can.length ≤ 60 := HCanN.out
                      obtain ⟨b, off, Ax, cx, hA, hbB, hrx, hc1⟩ := HPs.out wr HBj.out x hx
                      subst hA
                      subst hAd
                      have hjl1 : (j : Int) < (can.length : Int) := by omega
                      have hj0 : (0 : Int) ≤ (j : Int) := by omega
                      have hx0 : (0 : Int) ≤ (x : Int) := by omega
                      have hx1 : (x : Int) < (len : Int) := by have := HLn.out; omega
                      have HRwX : Hid (Ld.RowG ⟨t, (N : Int), s, ps⟩ (Ld.rig ps x ++ r)) := fun y hy => by
                        rcases List.mem_append.1 hy with hy | hy
                        · exact Ld.rig_ok HOk.out (i := x) (p := ps[x]) (List.getElem?_eq_getElem hx) y hy
                        · exact HRb.out y hy
                      have hr8 : (Ld.rig ps x).length ≤ 8 := by
                        rw [Ld.rig_at (List.getElem?_eq_getElem hx)]
                        exact (HOk.out.2.2.2.2.2.2.2 ps[x] (List.getElem_mem hx)).2.2.1
                      have HRy : Hid (Rd wr wr.heap.size Ax (syRow (Ld.rig ps x))) := hrx.more (Nat.le_trans hB (HBw.out.trans (HBd.out.trans HBj.out)).size)
                      have HCj := Lib.hid (HCb.out.keep (.of_bl HBj.out))
                      have hxl : x < len := by have := HLn.out; omega
                      have HSel : Hid (∀ (mb : Bool) (bz : Int), Ld.mayB K ⟨t, (N : Int), s, ps⟩ u (Ld.rig ps x ++ r) a = mb → bz = (if (mb && (decide (bv < 0) || decide (K = 1))) = true then (x : Int) else bv) → ∃ bo2, bz = bestI bo2 ∧ Ld.bestOf K (fun i => Ld.mayB K ⟨t, (N : Int), s, ps⟩ u (Ld.rig ps i ++ r) a) (can.take (j + 1)) = bo2) := by
                        intro mb bz hmb hbz
                        have h1 := HBn.out
                        rw [hmb] at h1
                        exact ⟨_, hbz.trans (sel_best HBv.out rfl), h1⟩
                      clear HBn hx
                      go_upto_block 3 with fail
                      refine tryOne_any t s len c ps Aw lw cw u K w.heap.size N bo co bw cw2 bt ot ll ct Ay r a bc oc can.length cd bv j x b off Ax cx wr (fun wx l Al ll cl f hb => HRch8.out wx l Al ll cl f (HBr.out.trans (HBd.out.trans (HBj.out.trans hb)))) k1 k3 y0 HRy.out hc1 HJl.out hxl hsl HCj.out HLr.out hlr1 ha hw24 HRwX.out hr8 HKK.out _ _ _ _ _ _ _ _ _ _ _ _ _ _ _ _ _ _ _ _ _ _ _ _ _ _ _ _ _ _ _ _ _ _ _ _ _ _ _ _ _ _ _ _ _ _ _ _ _ _ _ _ _ _ _ _ _ _ _ _ _ _ _ _ _ _ _ _ _ _ _ _ _ _ _ _ _ _ _ _ _ _ _ _ _ _ _ _ _ _ _ _ _ _ _ _ _ _ _ _ _ _ _ _ _ _ _ _ _ _ _ _ _ _ _ _ _ _ _ _ _ _ _ _ _ _ _ _ _ _ _ _ _ _ _ _ _ _ _ _ _ _ _ _ _ _ _ _ _ _ _ _ _ _ _ _ _ _ _ _ _ _ _ _ _ _ _ _ _ _ _ _ _ _ _ _ _ _ _ _ _ _ _ _ _ ?_
                      intro y20 y21 y22 y23 y117 y118 y119 y120 y121 y122 y123 y124 y125 y126 y127 y128 y129 y130 y131 y132 y133 y134 y135 y136 y137 y138 y139 y140 y141 y142 y143 y144 y145 y146 y147 y148 y149 y150 y151 y152 y153 y154 y155 y156 y157 y158 y159 y160 y161 y162 y163 y164 y165 y166 y167 y168 y169 y170 y171 y172 y173 y174 y175 y176 bz w9 hbz hb9
                      obtain ⟨bo2, hbo, hbe2⟩ := HSel.out _ _ rfl hbz
                      have HBo2 := Lib.hid hbo
                      have HBe2 := Lib.hid hbe2
                      have HB10 := Lib.hid (HBj.out.trans hb9)
                      clear hbz hb9 hbo hbe2 HSel
                      go_wp2_with fail
                      go_roundg (gk - 1)
                      case rel => exact ⟨j + 1, bo2, bz, rl_j HJg.out HJl.out, rfl, by go_num, HBo2.out, HBe2.out, HB10.out⟩
                      case measure => exact rl_g HJg.out HJl.out
                    · have hje : can.take j = can := List.take_of_length_le (by omega)
                      have HB9 : Hid (bv = (i9 : Int)) := by
                        have h := HBo.out
                        rw [hje, HPi.out] at h
                        unfold Hid
                        rw [HBv.out, ← h]; rfl
                      clear hje HBv HBo
                      have hbv := HB9.out
                      subst hbv
                      obtain ⟨b, off, Ax, cx, hA, hbB, hrx, hc1⟩ := HPs.out wr HBj.out i9 hi9
                      subst hA
                      have hjl1 : ¬ ((j : Int) < (can.length : Int)) := by omega
                      have hx0 : (0 : Int) ≤ (i9 : Int) := by omega
                      have hx1 : (i9 : Int) < (len : Int) := by have := HLn.out; omega
                      have hr8 : (Ld.rig ps i9).length ≤ 8 := HL9.out
                      have HQ1 := Lib.hid (rl_q hq)
                      have HQ2 := Lib.hid (rl_l hll hl0 hr8)
                      have HRy : Hid (Rd wr wr.heap.size Ax (syRow (Ld.rig ps i9))) := hrx.more (Nat.le_trans hB (HBw.out.trans (HBd.out.trans HBj.out)).size)
                      have HCj := Lib.hid (HCb.out.keep (.of_bl HBj.out))
                      have HS : Hid (∀ w1, Bl wr w1 → w1.cell? ⟨w.heap.size, 3, none⟩ = some (.slice (some ⟨b, off, none⟩) len c) ∧ w1.cell? ⟨b, off + i9 * 2 + 1, none⟩ = some (.slice Ax (Ld.rig ps i9).length cx)) := fun w1 hb =>
                        ⟨(Below.cell hb (World.block_lt_of_cell? _ _ k3)).trans k3, (Below.cell hb (World.block_lt_of_cell? _ _ hc1)).trans hc1⟩
                      have HLit : Hid ((wr.alloc (.cells #[] 41)).ownsRow wr.heap.size 41 2 (.slice (some ⟨wr.heap.size, 0, none⟩) 0 0) 0 []) := World.ownsRow_lit (base := wr.heap.size) (e := 41) (size := 2) wr #[] 0 (Nat.le_refl _) (by simp [maxLen]) rfl
                      have HBc : Hid (Bl wr wr.drew) := (Bl.refl wr).drew
                      have HBwr := Lib.hid (HBr.out.trans (HBd.out.trans HBj.out))
                      have HOwr := Lib.hid (own_bl HOw.out (HBd.out.trans HBj.out))
                      clear hrx HPs HPi
                      go_wp2_with fail
                      go_region_held3 (fun w' => w'.cell? ⟨w.heap.size, 3, none⟩ = some (.slice (some ⟨b, off, none⟩) len c) ∧ w'.cell? ⟨b, off + i9 * 2 + 1, none⟩ = some (.slice Ax (Ld.rig ps i9).length cx)) (first | exact HS.out _ HBc.out | exact HS.out _ ((Bl.refl wr).alloc _) | exact HS.out _ ((Bl.refl wr).alloc _).drew) (first
                        | (refine step_append_rdN rfl (.tmp 177) (.tmp 183) 42 rfl wr.heap.size 41 _ (.agg #[.bool false, .int .i64 0]) 2 16 Try.underlying42 hj hy0 hy1 hy2 rfl (by decide) (.slice (some ⟨wr.heap.size, 0, none⟩) 0 0) 0 [] rfl HLit.out _ Ax (Ld.rig ps i9).length cx (syRow (Ld.rig ps i9)) rfl (rd_on HRy.out (by first | exact ((Bl.refl wr).alloc _) | exact ((Bl.refl wr).alloc _).drew)) (syRow_len _) (syRow_one _) (by simp only [maxLen]; omega) (by omega) (by simp) ?_; intro v2 x2 hown2 hg2; rw [Nat.zero_add, List.nil_append] at hown2; obtain ⟨A2, d2, hv2, hd2⟩ := own_form hown2; subst hv2; have HO2 := Lib.hid hown2; have HBx : Hid (Bl wr x2) := (by first | exact ((Bl.refl wr).alloc _).grown hg2 (fun k hk => (HLit.out.lt k hk).1) | exact (((Bl.refl wr).alloc _).drew).grown hg2 (fun k hk => (HLit.out.lt k hk).1)); clear HBc; have HBc := Lib.hid HBx.out; clear HBx hown2 hg2 hd2)
                        | (refine step_append_rdN rfl (.tmp 184) (.tmp 186) 42 rfl wr.heap.size 41 _ (.agg #[.bool false, .int .i64 0]) 2 16 Try.underlying42 hj hy0 hy1 hy2 rfl (by decide) (.slice A2 (Ld.rig ps i9).length d2) (Ld.rig ps i9).length (syRow (Ld.rig ps i9)) rfl HO2.out _ Ay (ll - 1) (ct - 1) (syRow r) rfl (HCj.out.keep (.of_bl HBc.out)).rd ((syRow_len _).trans (by rw [HLr.out])) (syRow_one _) (by simp only [maxLen]; omega) (by omega) HBc.out.size ?_; intro v3 x3 hown3 hg3; obtain ⟨A3, d3, hv3, hd3⟩ := own_form hown3; subst hv3; have HO3 := Lib.hid hown3; have HD3 := Lib.hid hd3; have HBx : Hid (Bl wr x3) := HBc.out.grown hg3 (fun k hk => (HO2.out.lt k hk).1); clear HBc; have HBc := Lib.hid HBx.out; clear HBx hown3 hg3 hd3)
                        | fail)
                      have HBx3 := Lib.hid (HBwr.out.trans HBc.out)
                      have HOx3 := Lib.hid (own_bl HOwr.out HBc.out)
                      have HRT : Hid (RdT x3 41 A3 (syRow (Ld.rig ps i9 ++ r))) := by
                        have h := RdT.of_own HO3.out
                        rw [← syRow_append] at h
                        exact h
                      have hsz3 : w8.heap.size ≤ x3.heap.size := HBx3.out.size
                      clear HBc HO3 HO2 HLit HBwr HOwr
                      go_wp2_with (at_builtin; refine wpList_append_own _ rfl (.tmp 188) (.tmp 190) 25 rfl w8.heap.size 3 i0 (.int .i64 0) 1 8 Try.underlying25 hi hz0 hz1 hz2 rfl (by decide) _ _ _ rfl (HOx3.out.alloc _) ⟨x3.heap.size, 0, none⟩ 1 1 [.int .i64 (i9 : Int)] rfl rfl (one_new x3 (.int .i64 (i9 : Int)) 3) (by simp [Value.oneCell']) (by simp only [maxLen]; omega) (by omega) (by simp; omega) ?_; intro v' w6 hown' hgrow _; obtain ⟨A6, c6, hv6, hd6⟩ := own_form hown'; subst hv6; have HX6 := Lib.hid hown'; have HGw := Lib.hid hgrow; have HD6 := Lib.hid hd6; clear hown' hgrow hd6)
                      go_roundg (16 * q' + ((Ld.rig ps i9).length + (ll - 1)))
                      case rel => exact ⟨dn ++ [i9], a, q', Ld.rig ps i9 ++ r, A3, (Ld.rig ps i9).length + (ll - 1), d3, A6, lo + 1, c6, rfl, HQ1.out, ha, HQ2.out, HD3.out, rfl, rfl, rfl, (by unfold Hid; rw [List.length_append, HLr.out]), (by unfold Hid; rw [List.length_append, HLo.out]; rfl), HD6.out, HR9.out, HM9.out, HRT.out.keep (((KeepT.refl _ x3).alloc _).trans (.grown (HOx3.out.alloc _) HGw.out (by decide))), (HBx3.out.alloc _).grown HGw.out (fun j hj => ((HOx3.out.alloc (.cells #[.int .i64 (i9 : Int)] 3)).lt j hj).1), (by unfold Hid; rw [ns_append, ins_append]; exact HX6.out), HLd2.out⟩
                      case measure => omega
end Go.Proofs.Ytpblamiiggglaaa
