/- ReachOn's contract. -/
import Derived.Test.YthjaidaibpdamaaELaw2
import Derived.RegionTactic
import Derived.Deep.QuietTactic
import Derived.BigQuiet
namespace Go.Proofs.Ythjaidaibpdamaa
open Go.RowKit

set_option maxRecDepth 100000 in
set_option maxHeartbeats 8000000 in
theorem reachOn_any (t n s : Int) (A : Option Addr) (len c : Nat) (ps : List Gr.Pr) (W : World)
    (hlen : len = ps.length) (hmax : len ≤ 9223372036854775807) (hr : Prs W W.heap.size A ps) :
    Calls Try.prog 5 #[.agg #[.int .i64 t, .int .i64 n, .int .i64 s, .slice A len c]] W fun e w' => e = .returned (.bool true) ∧ Bl W w' := by
  have HL := Lib.hid hlen; clear hlen
  have HP : Hid (∀ w', Bl W w' → Prs w' w'.heap.size A ps) := fun _ hb => (hr.bl (Nat.le_refl _) hb).more hb.size
  clear hr
  have HB0 : Hid (Bl W (W.alloc (.cells #[.int .i64 t, .int .i64 n, .int .i64 s, .slice A len c] 24))) := (Bl.refl W).alloc _
  have HK0 := Lib.hid (Bk.new W 24 #[.int .i64 t, .int .i64 n, .int .i64 s, .slice A len c])
  go_enter Try.func5, Try.ntmps5
  go_wp2_with fail
  refine (awake10_any _).mono ?_
  rintro e w1 ⟨rfl, hb1⟩
  have HB1 := Lib.hid (HB0.out.trans hb1)
  have HK1 := Lib.hid (HK0.out.bl hb1)
  clear hb1 HB0 HK0
  have k0 : w1.cell? ⟨W.heap.size, 0, none⟩ = some (.int .i64 t) := HK1.out.cell 0
  have k1 : w1.cell? ⟨W.heap.size, 1, none⟩ = some (.int .i64 n) := HK1.out.cell 1
  have k2 : w1.cell? ⟨W.heap.size, 2, none⟩ = some (.int .i64 s) := HK1.out.cell 2
  have k3 : w1.cell? ⟨W.heap.size, 3, none⟩ = some (.slice A len c) := HK1.out.cell 3
  go_wp2_with fail
  refine (large9_any t n s A len c ps _ w1.heap.size HL.out hmax (HP.out _ HB1.out) (Nat.le_refl _)).mono ?_
  rintro e w2 ⟨rfl, hb2⟩
  have HB2 := Lib.hid (HB1.out.trans hb2)
  have HK2 := Lib.hid (HK1.out.bl hb2)
  clear hb2 k0 k1 k2 k3 HB1 HK1
  cases hlg : lgB ps with
  | true =>
    go_wp2_with fail
    go_ret
    exact ⟨rfl, HB2.out⟩
  | false =>
  clear hlg
  have k0 : w2.cell? ⟨W.heap.size, 0, none⟩ = some (.int .i64 t) := HK2.out.cell 0
  have k1 : w2.cell? ⟨W.heap.size, 1, none⟩ = some (.int .i64 n) := HK2.out.cell 1
  have k2 : w2.cell? ⟨W.heap.size, 2, none⟩ = some (.int .i64 s) := HK2.out.cell 2
  have k3 : w2.cell? ⟨W.heap.size, 3, none⟩ = some (.slice A len c) := HK2.out.cell 3
  go_wp2_with fail
  refine (rright_any t n s A len c ps _ w2.heap.size HL.out hmax (HP.out _ HB2.out) (Nat.le_refl _)).mono ?_
  rintro e w3 ⟨rfl, hb3⟩
  have HB3 := Lib.hid (HB2.out.trans hb3)
  have HK3 := Lib.hid (HK2.out.bl hb3)
  clear hb3 k0 k1 k2 k3 HB2 HK2
  cases hok : okB ⟨t, n, s, ps⟩ with
  | false =>
    go_wp2_with fail
    go_ret
    exact ⟨rfl, HB3.out⟩
  | true =>
  obtain ⟨n1, n2, n3⟩ := ok_nons hok
  obtain ⟨N, rfl⟩ : ∃ N : Nat, n = (N : Int) := ⟨n.toNat, by omega⟩
  have HOK := Lib.hid hok; clear hok
  have k0 : w3.cell? ⟨W.heap.size, 0, none⟩ = some (.int .i64 t) := HK3.out.cell 0
  have k1 : w3.cell? ⟨W.heap.size, 1, none⟩ = some (.int .i64 (N : Int)) := HK3.out.cell 1
  have k2 : w3.cell? ⟨W.heap.size, 2, none⟩ = some (.int .i64 s) := HK3.out.cell 2
  have k3 : w3.cell? ⟨W.heap.size, 3, none⟩ = some (.slice A len c) := HK3.out.cell 3
  obtain ⟨s1, s2⟩ := ok_start HOK.out
  obtain ⟨st, rfl⟩ : ∃ st : Nat, s = (st : Int) := ⟨s.toNat, by omega⟩
  have hst : st < N := by omega
  have hl60 : len ≤ 60 := by have := HL.out; omega
  have HOl : Hid ((reachOf ⟨t, (N : Int), (st : Int), ps⟩).length = N) := reachOf_len HOK.out
  have HS1 : Hid (∀ h : st < (reachOf ⟨t, (N : Int), (st : Int), ps⟩).length, (reachOf ⟨t, (N : Int), (st : Int), ps⟩)[st].rank = 1) := fun h => by
    rw [reachOf_at HOK.out h]
    have := Rc.rk_start ps hst
    show ((Rk.rk (Rc.reach ps N st) st : Nat) : Int) = 1
    omega
  go_wp2_with fail
  refine (reach_any t N st A len c ps _ w3.heap.size HL.out hmax (HP.out _ HB3.out) (Nat.le_refl _)).mono ?_
  intro e v h
  obtain ⟨Ao, co, he, hro, hbo⟩ := h.lit rfl HOl.out
  subst he
  have HB := Lib.hid (HB3.out.trans hbo)
  have HK := Lib.hid (HK3.out.bl hbo)
  have HO := Lib.hid hro
  clear h hro hbo k0 k1 k2 k3 HB3 HK3
  have hsl : st < (reachOf ⟨t, (N : Int), (st : Int), ps⟩).length := Nat.lt_of_lt_of_eq hst HOl.out.symm
  obtain ⟨bo, oo, rfl, hbo, o0, o1⟩ := HO.out.fact hsl
  rw [HS1.out hsl] at o0
  have hst0 : (0 : Int) ≤ (st : Int) := by omega
  have k1 : v.cell? ⟨W.heap.size, 1, none⟩ = some (.int .i64 (N : Int)) := HK.out.cell 1
  have k2 : v.cell? ⟨W.heap.size, 2, none⟩ = some (.int .i64 (st : Int)) := HK.out.cell 2
  have k3 : v.cell? ⟨W.heap.size, 3, none⟩ = some (.slice A len c) := HK.out.cell 3
  have klt : W.heap.size < v.heap.size := HK.out.lt
  clear o1
  go_wp2_with fail
  clear k1 k2 k3 klt o0
  go_loopw [37] (fun i wr => ∃ k : Nat, k ≤ len ∧ i = .int .i64 k ∧ Hid (Bl v wr)) (fun i _ => len - (intOf i).toNat)
  case atStart => exact ⟨0, Nat.zero_le _, rfl, Bl.refl _⟩
  case round =>
    obtain ⟨k, hk, rfl, HBr⟩ := hrel
    have HBw := Lib.hid (HB.out.trans HBr.out)
    by_cases hlt : k < len
    · have hj : k < ps.length := by have := HL.out; omega
      obtain ⟨b, off, Ax, cx, rfl, hbB, hrx, hc0, hc1⟩ := (HP.out _ HBw.out).at_ hj
      obtain ⟨⟨p1, p2⟩, p3, p4⟩ := ok_syms HOK.out hj
      obtain ⟨q, hqe, hql⟩ : ∃ q : Nat, ps[k].left = (q : Int) ∧ q < N := ⟨ps[k].left.toNat, by omega, by omega⟩
      have hql2 : q < (reachOf ⟨t, (N : Int), (st : Int), ps⟩).length := Nat.lt_of_lt_of_eq hql HOl.out.symm
      obtain ⟨bo', oo', hA', _, e0, e1⟩ := (HO.out.bl (Nat.le_refl _) HBr.out).fact hql2
      cases hA'
      have HSy : Hid (∀ (j : Nat) (hj2 : j < ps[k].right.length), ps[k].right[j].non = true → ∃ z : Nat, ps[k].right[j].n = (z : Int) ∧ z < N ∧ ∀ (hz : z < (reachOf ⟨t, (N : Int), (st : Int), ps⟩).length), 0 < (reachOf ⟨t, (N : Int), (st : Int), ps⟩)[q].rank →
          (reachOf ⟨t, (N : Int), (st : Int), ps⟩)[z].rank ≠ 0 ∧ (reachOf ⟨t, (N : Int), (st : Int), ps⟩)[z].rank ≤ (reachOf ⟨t, (N : Int), (st : Int), ps⟩)[q].rank + 1) := fun j hj2 hn => by
        have h1 := p4 _ (List.getElem_mem hj2) hn
        refine ⟨ps[k].right[j].n.toNat, by omega, by omega, fun hz h0 => ?_⟩
        have hqt : ps[k].left.toNat = q := by omega
        have := reach_on HOK.out hj hj2 hn (by rw [hqt]; exact hql2) hz
        simp only [hqt] at this
        exact this h0
      have HRX := Lib.hid hrx
      have hr8 : ps[k].right.length ≤ 8 := p3
      have hbv : bo < wr.heap.size := Nat.lt_of_lt_of_le hbo HBr.out.size
      rw [hqe] at hc0
      clear hrx p1 p2 p3 p4 hqe e1
      generalize ps[k].right = right at *
      have HQr : Hid ((reachOf ⟨t, (N : Int), (st : Int), ps⟩)[q].rank ≤ 24) := by
        rw [reachOf_at HOK.out hql2]
        have := Rc.rank_le ps (show ((st : Int)).toNat < ((N : Int)).toNat by simp; omega) q
        simp only [Int.toNat_natCast] at this ⊢
        show ((Rk.rk (Rc.reach ps N st) q : Nat) : Int) ≤ 24
        omega
      generalize hzq : (reachOf ⟨t, (N : Int), (st : Int), ps⟩)[q] = zq at e0 HSy HQr
      obtain ⟨xr, xp⟩ := zq
      simp only at e0
      have HSy : Hid (∀ (j : Nat) (hj2 : j < right.length), right[j].non = true → ∃ z : Nat, right[j].n = (z : Int) ∧ z < N ∧ ∀ (hz : z < (reachOf ⟨t, (N : Int), (st : Int), ps⟩).length), 0 < xr →
          (reachOf ⟨t, (N : Int), (st : Int), ps⟩)[z].rank ≠ 0 ∧ (reachOf ⟨t, (N : Int), (st : Int), ps⟩)[z].rank ≤ xr + 1) := HSy.out
      have hx24 : xr ≤ 24 := HQr.out
      clear hzq hj hql2 HQr
      have e0a : (wr.alloc (.cells #[.int .i64 q, .slice Ax right.length cx] 35)).cell? ⟨bo, oo + q * 2, none⟩ = some (.int .i64 xr) := (World.cell?_alloc_lt _ _ _ hbv).trans e0
      have HA0 : Hid (Bl wr (wr.alloc (.cells #[.int .i64 q, .slice Ax right.length cx] 35))) := (Bl.refl wr).alloc _
      go_wp2_with fail
      clear e0 e0a hc0 hc1
      generalize hwp : wr.alloc (.cells #[.int .i64 q, .slice Ax right.length cx] 35) = wp at HA0 ⊢
      have HWP := Lib.hid hwp; clear hwp
      go_loopw [50] (fun i wy => ∃ j : Nat, j ≤ right.length ∧ i = .int .i64 j ∧ Hid (Bl wp wy)) (fun i _ => right.length - (intOf i).toNat)
      case atStart => exact ⟨0, Nat.zero_le _, rfl, Bl.refl _⟩
      case round =>
        obtain ⟨j, hjl, rfl, HBy⟩ := hrel
        have HBz := Lib.hid (HA0.out.trans HBy.out)
        by_cases hlt2 : j < right.length
        · obtain ⟨bx, ox, rfl, hbx, q0, q1⟩ := (HRX.out.bl (Nat.le_refl _) HBz.out).sym hlt2
          have HSk := Lib.hid (HSy.out j hlt2)
          generalize right[j] = y at q0 q1 HSk
          obtain ⟨yb, yn⟩ := y
          simp only at q0 q1
          by_cases hx : 0 < xr
          · cases yb with
            | false =>
              go_wp2_with fail
              go_roundw
              case rel => exact ⟨j + 1, by omega, by go_num, HBy.out.alloc _⟩
              case measure => simp [intOf]; omega
            | true =>
              obtain ⟨z, hze, hzN, hzz⟩ := HSk.out rfl
              simp only at hze
              subst hze
              have hzl : z < (reachOf ⟨t, (N : Int), (st : Int), ps⟩).length := Nat.lt_of_lt_of_eq hzN HOl.out.symm
              obtain ⟨r1, r2⟩ := hzz hzl hx
              obtain ⟨bo', oo', hA', _, f0, f1⟩ := (HO.out.bl (Nat.le_refl _) (HBr.out.trans HBz.out)).fact hzl
              cases hA'
              generalize (reachOf ⟨t, (N : Int), (st : Int), ps⟩)[z] = zz at f0 r1 r2
              obtain ⟨yr, yp⟩ := zz
              simp only at f0 r1 r2
              have hbw : bo < wr.heap.size := Nat.lt_of_lt_of_le hbv HBz.out.size
              have hz0 : (0 : Int) ≤ (z : Int) := by omega
              have hq : (yr == 0) = false := by simpa using r1
              have hd : ¬ (xr + 1 < yr) := by omega
              have f0a : (wr.alloc (.cells #[.bool true, .int .i64 (z : Int)] 37)).cell? ⟨bo, oo + z * 2, none⟩ = some (.int .i64 yr) := (World.cell?_alloc_lt _ _ _ hbw).trans f0
              clear hzz hzl f1 r1 HSk
              go_wp2_with fail
              go_roundw
              case rel => exact ⟨j + 1, by omega, by go_num, HBy.out.alloc _⟩
              case measure => simp [intOf]; omega
          · go_wp2_with fail
            go_roundw
            case rel => exact ⟨j + 1, by omega, by go_num, HBy.out.alloc _⟩
            case measure => simp [intOf]; omega
        · go_wp2_with fail
          go_roundw
          case rel => exact ⟨k + 1, by omega, by go_num, HBr.out.trans HBz.out⟩
          case measure => simp [intOf]; omega
    · go_wp2_with fail
      go_ret
      exact ⟨rfl, HB.out.trans HBr.out⟩
end Go.Proofs.Ythjaidaibpdamaa
