/- GramOwn itself. -/
import Derived.Test.YtlfobnpkfloolaaGOwnLaw
namespace Go.Proofs.Ytlfobnpkfloolaa
open Go.RowKit

set_option maxRecDepth 100000 in
set_option maxHeartbeats 8000000 in
theorem gramOwn_any (t n s : Int) (A : Option Addr) (c : Nat) (ps : List Gr.Pr) (w : World) (hr : Prs w w.heap.size A ps) (hmax : ps.length ≤ 9223372036854775807) :
    Calls Try.prog 6 #[.agg #[.int .i64 t, .int .i64 n, .int .i64 s, .slice A ps.length c]] w fun e w' => e = .returned (.bool true) ∧ Bl w w' := by
  have HP : Hid (∀ W : World, Bl w W → Prs W w.heap.size A ps) := fun W hb => hr.bl (Nat.le_refl _) hb
  clear hr
  have HB0 : Hid (Bl w (w.alloc (.cells #[.int .i64 t, .int .i64 n, .int .i64 s, .slice A ps.length c] 24))) := (Bl.refl w).alloc _
  have HK0 := Lib.hid (Bk.new w 24 #[.int .i64 t, .int .i64 n, .int .i64 s, .slice A ps.length c])
  go_enter Try.func6, Try.ntmps6
  go_wp2_with fail
  refine (gawake_any _).mono ?_
  rintro e w1 ⟨rfl, hb1⟩
  have HB1 := Lib.hid (HB0.out.trans hb1)
  have HK1 := Lib.hid (HK0.out.bl hb1)
  have k0 : w1.cell? ⟨w.heap.size, 0, none⟩ = some (.int .i64 t) := HK1.out.cell 0
  have k1 : w1.cell? ⟨w.heap.size, 1, none⟩ = some (.int .i64 n) := HK1.out.cell 1
  have k2 : w1.cell? ⟨w.heap.size, 2, none⟩ = some (.int .i64 s) := HK1.out.cell 2
  have k3 : w1.cell? ⟨w.heap.size, 3, none⟩ = some (.slice A ps.length c) := HK1.out.cell 3
  clear hb1
  go_wp2_with fail
  refine (glarge_any t n s A ps.length c ps _ w.heap.size rfl hmax (HP.out _ HB1.out) HB1.out.size).mono ?_
  rintro e w2 ⟨rfl, hb2⟩
  have HB2 := Lib.hid (HB1.out.trans hb2)
  have HK2 := Lib.hid (HK1.out.bl hb2)
  clear hb2 k0 k1 k2 k3
  have k0 : w2.cell? ⟨w.heap.size, 0, none⟩ = some (.int .i64 t) := HK2.out.cell 0
  have k1 : w2.cell? ⟨w.heap.size, 1, none⟩ = some (.int .i64 n) := HK2.out.cell 1
  have k2 : w2.cell? ⟨w.heap.size, 2, none⟩ = some (.int .i64 s) := HK2.out.cell 2
  have k3 : w2.cell? ⟨w.heap.size, 3, none⟩ = some (.slice A ps.length c) := HK2.out.cell 3
  cases hlg : lgB ps with
  | true =>
    go_wp2_with fail
    go_ret
    exact ⟨rfl, HB2.out⟩
  | false =>
  obtain ⟨hp1, hp2⟩ := lgB_false hlg
  have HPR := Lib.hid hp2
  clear hlg hp2
  go_wp2_with fail
  refine (right_any t n s A ps.length c ps _ w.heap.size rfl hmax (HP.out _ HB2.out) HB2.out.size).mono ?_
  rintro e w3 ⟨rfl, hb3⟩
  have HB3 := Lib.hid (HB2.out.trans hb3)
  have HK3 := Lib.hid (HK2.out.bl hb3)
  clear hb3 k0 k1 k2 k3
  have k0 : w3.cell? ⟨w.heap.size, 0, none⟩ = some (.int .i64 t) := HK3.out.cell 0
  have k1 : w3.cell? ⟨w.heap.size, 1, none⟩ = some (.int .i64 n) := HK3.out.cell 1
  have k2 : w3.cell? ⟨w.heap.size, 2, none⟩ = some (.int .i64 s) := HK3.out.cell 2
  have k3 : w3.cell? ⟨w.heap.size, 3, none⟩ = some (.slice A ps.length c) := HK3.out.cell 3
  cases hok : okB ⟨t, n, s, ps⟩ with
  | false =>
    go_wp2_with fail
    go_ret
    exact ⟨rfl, HB3.out⟩
  | true =>
  obtain ⟨_, hT, _, hN, _, _, _, h8⟩ := (okB_iff _).1 hok
  simp only at hT hN h8
  have HSm : Hid (∀ x ∈ ps, (0 ≤ x.left ∧ x.left ≤ 24) ∧ ∀ y ∈ x.right, 0 ≤ y.n ∧ y.n ≤ 24) := fun x hx => by
    obtain ⟨q1, q2, _, q4⟩ := h8 x hx
    simp only at q2
    refine ⟨⟨q1, by omega⟩, fun y hy => ?_⟩
    obtain ⟨r1, r2, r3⟩ := q4 y hy
    simp only at r2 r3
    refine ⟨r1, ?_⟩
    cases hb : y.non with
    | true => have := r2 hb; omega
    | false => have := r3 hb; omega
  have HErr := Lib.hid (errOf_ok hok)
  have hxl := bytesOf_len t n s ps
  clear h8 hok hT hN
  go_wp2_with fail
  refine (gbytes_any t n s A ps.length c ps _ w.heap.size rfl (by omega) (HP.out _ HB3.out) HB3.out.size).mono ?_
  rintro e w4 ⟨A4, n4, c4, rfl, hn4, hc4, ho4, hb4⟩
  have HB4 := Lib.hid (HB3.out.trans hb4)
  have HK4 := Lib.hid (HK3.out.bl hb4)
  have HO4 : Hid (w4.ownsRow w.heap.size 5 1 (.slice A4 n4 c4) n4 (bys (bytesOf ⟨t, n, s, ps⟩))) := own_base ho4 fun j hj => Nat.le_trans HB3.out.size (ho4.lt j hj).1
  have hn4b : n4 ≤ 7000 := by omega
  have HN4 := Lib.hid hn4
  clear hn4 ho4 hb4 k0 k1 k2 k3
  have k0 : w4.cell? ⟨w.heap.size, 0, none⟩ = some (.int .i64 t) := HK4.out.cell 0
  have k1 : w4.cell? ⟨w.heap.size, 1, none⟩ = some (.int .i64 n) := HK4.out.cell 1
  have k2 : w4.cell? ⟨w.heap.size, 2, none⟩ = some (.int .i64 s) := HK4.out.cell 2
  have k3 : w4.cell? ⟨w.heap.size, 3, none⟩ = some (.slice A ps.length c) := HK4.out.cell 3
  go_wp2_with fail
  refine (gclone_any t n s A ps.length c ps _ w.heap.size rfl (by omega) (fun x hx => Nat.le_trans (HPR.out x hx) (by decide)) (HP.out _ HB4.out) HB4.out.size).mono ?_
  rintro e w5 ⟨A5, c5, ks, rfl, hm5, ho5, hb5⟩
  have HS0 : Hid (OwS w w5.heap.size #[.int .i64 t, .int .i64 n, .int .i64 s, .slice A ps.length c] #[.int .i64 t, .int .i64 n, .int .i64 s, .slice A5 ps.length c5] (.slice A5 ps.length c5) (.slice A4 n4 c4) (bytesOf ⟨t, n, s, ps⟩) ks (w5.alloc (.cells #[.int .i64 t, .int .i64 n, .int .i64 s, .slice A5 ps.length c5] 24))) := by
    have h4 := HB4.out.size
    refine ⟨?_, Bk.new w5 _ _, (HK4.out.bl hb5).alloc _, ?_, (HB4.out.trans hb5).alloc _⟩
    · obtain ⟨o1, o2, o3⟩ := ho5
      exact OwnPrs.bl ⟨own_base o1 fun j hj => Nat.le_trans h4 (o1.lt j hj).1, fun x hx => own_base (o2 x hx) fun j hj => Nat.le_trans h4 ((o2 x hx).lt j hj).1, o3⟩ ((Bl.refl w5).alloc _)
    · rw [← HN4.out]
      exact (own_bl HO4.out hb5).alloc _
  have HM5 : Hid (ks.map Ph.pr = mixP ps 0) := by unfold Hid; rw [mixP_zero]; exact hm5
  have HA5 : Hid (0 < ps.length → ∃ g5, A5 = some ⟨g5, 0, none⟩) := fun h0 => by
    have hk : ks.length = ps.length := by rw [← hm5, List.length_map]
    rcases ho5.1.2 with ⟨_, h1⟩ | ⟨g', cap', cur, h', _⟩
    · omega
    · injection h' with h'; exact ⟨g', h'⟩
  clear hm5 ho5 hb5 k0 k1 k2 k3
  go_wp2_with fail
  obtain ⟨gc, hgc⟩ : ∃ gc : Nat, gc = w5.heap.size := ⟨_, rfl⟩
  rw [← hgc] at HS0 ⊢
  have HGC := Lib.hid hgc; clear hgc
  go_loopw [29] (fun i wr => ∃ (k : Nat) (hs : List Ph), k ≤ ps.length ∧ i = .int .i64 k ∧ Hid (hs.map Ph.pr = mixP ps k) ∧ Hid (OwS w gc #[.int .i64 t, .int .i64 n, .int .i64 s, .slice A ps.length c] #[.int .i64 t, .int .i64 n, .int .i64 s, .slice A5 ps.length c5] (.slice A5 ps.length c5) (.slice A4 n4 c4) (bytesOf ⟨t, n, s, ps⟩) hs wr)) (fun i _ => ps.length - (intOf i).toNat)
  case atStart => exact ⟨0, ks, Nat.zero_le _, rfl, HM5, HS0⟩
  case round =>
    obtain ⟨k, hs, hk, rfl, HM, HO⟩ := hrel
    obtain ⟨wo, rfl⟩ : ∃ wo : World, wo = wr := ⟨_, rfl⟩
    by_cases hlt : k < ps.length
    · obtain ⟨g5, hA5⟩ := HA5.out (by omega)
      subst hA5
      obtain ⟨hk', hkl, hkr⟩ := hs_at HM.out hlt
      obtain ⟨⟨x1, x2⟩, x3⟩ := HSm.out _ (List.getElem_mem hlt)
      have hx20 := HPR.out _ (List.getElem_mem hlt)
      have HNext : Hid (∀ x : Ph, x.pr = bumpP ps[k] → (hs.set k x).map Ph.pr = mixP ps (k + 1)) := fun x hx => by rw [List.map_set, HM.out, hx, mixP_next hlt]
      obtain ⟨a0, a1, f0, hg5⟩ := HO.out.1.cell hk'
      rw [hkl] at a0
      rw [hkr] at a1
      have b3 : wo.cell? ⟨gc, 3, none⟩ = some (.slice (some ⟨g5, 0, none⟩) ps.length c5) := HO.out.2.1.cell 3
      have hgcl : gc < wo.heap.size := HO.out.2.1.lt
      have hne : gc ≠ g5 := fun e => HO.out.2.1.row HO.out.1.1 (by decide) (by rw [e]; rfl)
      have hki : (0 : Int) ≤ (k : Int) := by omega
      have hkj : (k : Int) < (ps.length : Int) := by omega
      have HO1 : Hid (OwS w gc #[.int .i64 t, .int .i64 n, .int .i64 s, .slice A ps.length c] #[.int .i64 t, .int .i64 n, .int .i64 s, .slice (some ⟨g5, 0, none⟩) ps.length c5] (.slice (some ⟨g5, 0, none⟩) ps.length c5) (.slice A4 n4 c4) (bytesOf ⟨t, n, s, ps⟩) (hs.set k ⟨ps[k].left + 1, halfS ps[k].right 0, hs[k].at_, hs[k].cap⟩) (wo.setCell ⟨g5, k * 2, none⟩ (.int .i64 (ps[k].left + 1)))) := by
        have h := HO.out.setLeft hk' (ps[k].left + 1)
        rw [hkr] at h
        rw [halfS_zero]
        exact h
      have hcell1 : Hid (∀ (j : Nat) (wr : World), j ≤ ps[k].right.length → OwS w gc #[.int .i64 t, .int .i64 n, .int .i64 s, .slice A ps.length c] #[.int .i64 t, .int .i64 n, .int .i64 s, .slice (some ⟨g5, 0, none⟩) ps.length c5] (.slice (some ⟨g5, 0, none⟩) ps.length c5) (.slice A4 n4 c4) (bytesOf ⟨t, n, s, ps⟩) (hs.set k ⟨ps[k].left + 1, halfS ps[k].right j, hs[k].at_, hs[k].cap⟩) wr → wr.cell? ⟨g5, k * 2 + 1, none⟩ = some (.slice hs[k].at_ ps[k].right.length hs[k].cap)) := fun j wr hj h => by
        have h9 := (h.1.cell (k := k) (by rw [List.length_set]; exact hk')).2.1
        rw [List.getElem_set_self] at h9
        simp only [halfS_len _ _ hj] at h9
        exact h9
      have HStep : Hid (∀ (j : Nat) (hj : j < ps[k].right.length) (wr : World), OwS w gc #[.int .i64 t, .int .i64 n, .int .i64 s, .slice A ps.length c] #[.int .i64 t, .int .i64 n, .int .i64 s, .slice (some ⟨g5, 0, none⟩) ps.length c5] (.slice (some ⟨g5, 0, none⟩) ps.length c5) (.slice A4 n4 c4) (bytesOf ⟨t, n, s, ps⟩) (hs.set k ⟨ps[k].left + 1, halfS ps[k].right j, hs[k].at_, hs[k].cap⟩) wr →
          ∃ b, hs[k].at_ = some ⟨b, 0, none⟩ ∧ wr.cell? ⟨b, j * 2 + 1, none⟩ = some (.int .i64 ps[k].right[j].n) ∧ wr.frozen? ⟨b, j * 2 + 1, none⟩ = false ∧
            OwS w gc #[.int .i64 t, .int .i64 n, .int .i64 s, .slice A ps.length c] #[.int .i64 t, .int .i64 n, .int .i64 s, .slice (some ⟨g5, 0, none⟩) ps.length c5] (.slice (some ⟨g5, 0, none⟩) ps.length c5) (.slice A4 n4 c4) (bytesOf ⟨t, n, s, ps⟩) (hs.set k ⟨ps[k].left + 1, halfS ps[k].right (j + 1), hs[k].at_, hs[k].cap⟩) (wr.setCell ⟨b, j * 2 + 1, none⟩ (.int .i64 (ps[k].right[j].n + 1)))) := fun j hj wr h => by
        have hkk : k < (hs.set k ⟨ps[k].left + 1, halfS ps[k].right j, hs[k].at_, hs[k].cap⟩).length := by rw [List.length_set]; exact hk'
        have hjj : j < ((hs.set k ⟨ps[k].left + 1, halfS ps[k].right j, hs[k].at_, hs[k].cap⟩)[k]).right.length := by
          rw [List.getElem_set_self]; show j < (halfS ps[k].right j).length; rw [halfS_len _ _ (by omega)]; exact hj
        obtain ⟨b, h1, h2, h3, _⟩ := h.sym hkk hjj
        have h4 := h.setSym hkk h1 hjj (ps[k].right[j].n + 1)
        simp only [List.getElem_set_self, List.set_set] at h1 h2 h4
        rw [halfS_at hj (by rw [halfS_len _ _ (by omega)]; exact hj)] at h2
        refine ⟨b, h1, h2, h3, ?_⟩
        have e : (halfS ps[k].right j).set j ⟨((halfS ps[k].right j)[j]'(by rw [halfS_len _ _ (by omega)]; exact hj)).non, ps[k].right[j].n + 1⟩ = halfS ps[k].right (j + 1) := by
          rw [halfS_at hj (by rw [halfS_len _ _ (by omega)]; exact hj)]
          exact halfS_next hj
        rw [e] at h4
        exact h4
      have HBump : Hid (bumpP ps[k] = ⟨ps[k].left + 1, halfS ps[k].right ps[k].right.length⟩) := by unfold Hid; rw [halfS_all]; rfl
      clear hkl hkr
      generalize hs[k].at_ = Ax at *
      generalize hs[k].cap = cx at *
      generalize ps[k] = x at *
      obtain ⟨xl, xs⟩ := x
      simp only at *
      have m3 : (wo.setCell ⟨g5, k * 2, none⟩ (.int .i64 (xl + 1))).cell? ⟨gc, 3, none⟩ = some (.slice (some ⟨g5, 0, none⟩) ps.length c5) := HO1.out.2.1.cell 3
      have m1 := hcell1.out 0 _ (Nat.zero_le _) HO1.out
      go_wp2_with fail
      generalize hw6 : wo.setCell ⟨g5, k * 2, none⟩ (.int .i64 (xl + 1)) = w6 at HO1 m1 m3 ⊢
      have HW6 := Lib.hid hw6; clear hw6
      clear m1 m3 a0 a1 f0 b3
      go_loopw [48] (fun i wr => ∃ j : Nat, j ≤ xs.length ∧ i = .int .i64 j ∧ Hid (OwS w gc #[.int .i64 t, .int .i64 n, .int .i64 s, .slice A ps.length c] #[.int .i64 t, .int .i64 n, .int .i64 s, .slice (some ⟨g5, 0, none⟩) ps.length c5] (.slice (some ⟨g5, 0, none⟩) ps.length c5) (.slice A4 n4 c4) (bytesOf ⟨t, n, s, ps⟩) (hs.set k ⟨xl + 1, halfS xs j, Ax, cx⟩) wr)) (fun i _ => xs.length - (intOf i).toNat)
      case atStart => exact ⟨0, Nat.zero_le _, rfl, HO1⟩
      case round =>
        obtain ⟨j, hjl, rfl, HOj⟩ := hrel
        by_cases hlt2 : j < xs.length
        · have d1 := hcell1.out j wr hjl HOj.out
          have d3 : wr.cell? ⟨gc, 3, none⟩ = some (.slice (some ⟨g5, 0, none⟩) ps.length c5) := HOj.out.2.1.cell 3
          obtain ⟨b, hAx, c1, f1, hn1⟩ := HStep.out j hlt2 wr HOj.out
          obtain ⟨y1, y2⟩ := x3 _ (List.getElem_mem hlt2)
          obtain ⟨yn, hyn⟩ : ∃ yn : Int, yn = xs[j].n := ⟨_, rfl⟩
          rw [← hyn] at c1 hn1 y1 y2
          have HN1 := Lib.hid hn1
          clear hyn hn1 HOj hcell1 HStep x3 HNext HBump
          rw [hAx] at d1
          have HAx := Lib.hid hAx; clear hAx
          have hji : (0 : Int) ≤ (j : Int) := by omega
          have hjj : (j : Int) < (xs.length : Int) := by omega
          go_wp2_with fail
          go_roundw
          case rel => exact ⟨j + 1, by omega, by go_num, HN1⟩
          case measure => simp [intOf]; omega
        · have hjx : j = xs.length := by omega
          subst hjx
          have HX : Hid ((hs.set k ⟨xl + 1, halfS xs xs.length, Ax, cx⟩).map Ph.pr = mixP ps (k + 1)) := HNext.out _ HBump.out.symm
          clear hcell1 HStep x3 HNext HBump
          go_wp2_with fail
          go_roundw
          case rel => exact ⟨k + 1, _, by omega, by go_num, HX, HOj⟩
          case measure => simp [intOf]; omega
    · have hkl : k = ps.length := by omega
      subst hkl
      have HMb : Hid (hs.map Ph.pr = ps.map bumpP) := by unfold Hid; rw [HM.out, mixP_all]
      obtain ⟨o1, o2, o3, o4, o5⟩ := HO.out
      have HBo := Lib.hid o5
      have HKo := Lib.hid o3
      have HCo := Lib.hid o2
      have hpc : Prs wo wo.heap.size A5 (ps.map bumpP) := by rw [← HMb.out]; exact o1.prs
      have HPc := Lib.hid hpc
      rw [← HN4.out] at o4
      have HRb := Lib.hid (Rd.own o4)
      have HEq : Hid (decide ((⟨t, n, s, ps.map bumpP⟩ : Gr.Gm) = ⟨t, n, s, ps⟩) = ((ps.length : Int) == 0)) := by
        unfold Hid
        rw [gm_eq, bump_same, Bool.eq_iff_iff]
        simp
      have HMc : Hid (∀ x ∈ ps.map bumpP, x.right.length ≤ 9223372036854775807) := fun x hx => by
        obtain ⟨y, hy, rfl⟩ := List.mem_map.1 hx
        unfold bumpP
        simp only [List.length_map]
        exact Nat.le_trans (HPR.out y hy) (by decide)
      clear o1 o2 o3 o4 o5 hpc HO HM
      have k0 : wo.cell? ⟨w.heap.size, 0, none⟩ = some (.int .i64 t) := HKo.out.cell 0
      have k1 : wo.cell? ⟨w.heap.size, 1, none⟩ = some (.int .i64 n) := HKo.out.cell 1
      have k2 : wo.cell? ⟨w.heap.size, 2, none⟩ = some (.int .i64 s) := HKo.out.cell 2
      have k3 : wo.cell? ⟨w.heap.size, 3, none⟩ = some (.slice A ps.length c) := HKo.out.cell 3
      go_wp2_with fail
      refine (gbytes_any t n s A ps.length c ps _ w.heap.size rfl (by omega) (HP.out _ HBo.out) HBo.out.size).mono ?_
      rintro e w8 ⟨A8, n8, c8, rfl, hn8, hc8, ho8, hb8⟩
      rw [HErr.out]
      have HBw := Lib.hid (HBo.out.trans hb8)
      have HKc := Lib.hid (HKo.out.bl hb8)
      have HCc := Lib.hid (HCo.out.bl hb8)
      have hx8 := Rd.own ho8
      have hy8 := (HRb.out.bl (Nat.le_refl _) hb8).more (Bl.own hb8).size
      have hq8 := (HPc.out.bl (Nat.le_refl _) hb8).more (Bl.own hb8).size
      have HN8 := Lib.hid hn8
      have hn8b : n8 ≤ 7000 := by omega
      have HXx : Hid (∀ W : World, Bl w8 W → Rd W W.heap.size A8 (bys (bytesOf ⟨t, n, s, ps⟩))) := fun W hb => (hx8.bl (Nat.le_refl _) hb).more hb.size
      have HYy : Hid (∀ W : World, Bl w8 W → Rd W W.heap.size A4 (bys (bytesOf ⟨t, n, s, ps⟩))) := fun W hb => (hy8.bl (Nat.le_refl _) hb).more hb.size
      have HPk : Hid (∀ W : World, Bl w8 W → Prs W W.heap.size A5 (ps.map bumpP)) := fun W hb => (hq8.bl (Nat.le_refl _) hb).more hb.size
      have HPg : Hid (∀ W : World, Bl w8 W → Prs W W.heap.size A ps) := fun W hb => (HP.out W (HBw.out.trans hb)).more (HBw.out.trans hb).size
      have HBc := Lib.hid (Bl.refl w8)
      clear hn8 ho8 hb8 hx8 hy8 hq8 k0 k1 k2 k3
      go_wp2_with fail
      go_region_held3 (fun w' => w'.cell? ⟨w.heap.size, 0, none⟩ = some (.int .i64 t) ∧ w'.cell? ⟨w.heap.size, 1, none⟩ = some (.int .i64 n) ∧ w'.cell? ⟨w.heap.size, 2, none⟩ = some (.int .i64 s) ∧ w'.cell? ⟨w.heap.size, 3, none⟩ = some (.slice A ps.length c) ∧ w'.cell? ⟨gc, 0, none⟩ = some (.int .i64 t) ∧ w'.cell? ⟨gc, 1, none⟩ = some (.int .i64 n) ∧ w'.cell? ⟨gc, 2, none⟩ = some (.int .i64 s) ∧ w'.cell? ⟨gc, 3, none⟩ = some (.slice A5 ps.length c5)) (exact ⟨HKc.out.cell 0, HKc.out.cell 1, HKc.out.cell 2, HKc.out.cell 3, HCc.out.cell 0, HCc.out.cell 1, HCc.out.cell 2, HCc.out.cell 3⟩) (first
        | (go_at_call 21; ((with_reducible refine (same_bl A8 A4 n8 n4 c8 c4 (bytesOf ⟨t, n, s, ps⟩) (bytesOf ⟨t, n, s, ps⟩) _ w8.heap.size HN8.out HN4.out (by omega) (HXx.out w8 (Bl.refl w8)).drew (HYy.out w8 (Bl.refl w8)).drew).mono ?_); rintro e v1 ⟨rfl, hb1⟩; rw [decide_eq_true rfl]; have HKc := Lib.hid (HKc.out.bl (Bl.undrew hb1)); have HCc := Lib.hid (HCc.out.bl (Bl.undrew hb1)); have HBc := Lib.hid (HBc.out.trans (Bl.undrew hb1)); clear hb1))
        | (go_at_call 15; ((with_reducible refine (gsame_any t n s t n s A5 A ps.length ps.length c5 c (ps.map bumpP) ps _ v1.heap.size (List.length_map _).symm rfl hmax HMc.out (HPk.out v1 HBc.out) (HPg.out v1 HBc.out) (Nat.le_refl _)).mono ?_); rintro e v2 ⟨rfl, hb2⟩; rw [HEq.out]; have HKc := Lib.hid (HKc.out.bl hb2); have HCc := Lib.hid (HCc.out.bl hb2); have HBc := Lib.hid (HBc.out.trans hb2); clear hb2)))
      go_wp2_with fail
      go_ret
      exact ⟨by simp, HBw.out.trans HBc.out⟩
end Go.Proofs.Ytlfobnpkfloolaa
