/- The reference's Stop: where a word stops. -/
import Derived.Test.YtckckejgocbkkaaChRSets
import Derived.Test.YtckckejgocbkkaaChRNx
import Derived.Test.YtckckejgocbkkaaChF
namespace Go.Proofs.Ytckckejgocbkkaa
open Go.RowKit

set_option maxRecDepth 100000 in
set_option maxHeartbeats 8000000 in
theorem rstop_any (t n s : Int) (A : Option Addr) (len c : Nat) (ps : List Gr.Pr) (Aw : Option Addr) (lw cw : Nat) (xs : List Int) (w : World) (B : Nat) (hlen : len = ps.length) (hmax : len ≤ 9223372036854775807) (hr : PrsC w B A ps) (hlw : lw = xs.length) (hmw : lw ≤ 9223372036854775807) (hrw : Rd w B Aw (ins xs)) (hB : B ≤ w.heap.size) :
    Calls Try.prog 9 #[.agg #[.int .i64 t, .int .i64 n, .int .i64 s, .slice A len c], .slice Aw lw cw] w (StopP ⟨t, n, s, ps⟩ xs w) := by
  have HB0 : Hid (Bl w (w.alloc (.cells #[.int .i64 t, .int .i64 n, .int .i64 s, .slice A len c] 24))) := (Bl.refl w).alloc _
  have HK0 := Lib.hid (Bk.new w 24 #[.int .i64 t, .int .i64 n, .int .i64 s, .slice A len c])
  have HSe := Lib.hid (rsets_any t n s A len c ps Aw lw cw xs (w.alloc (.cells #[.int .i64 t, .int .i64 n, .int .i64 s, .slice A len c] 24)) B hlen hmax (hr.prs.bl hB HB0.out) hlw hmw (hrw.bl hB HB0.out) (Nat.le_trans hB HB0.out.size))
  have HR := Lib.hid (fun (wx : World) (hb : Bl w wx) => (hr.bl hB hb).prs.more (Nat.le_trans hB hb.size))
  have HRw := Lib.hid (fun (wx : World) (hb : Bl w wx) => hrw.bl hB hb)
  have HNt := Lib.hid (fun (Ai : Option Addr) (ci : Nat) (l : List Ch.Im) (wx : World) (hb : Bl w wx) (hl : l.length ≤ 1000000000) (hri : Rd wx wx.heap.size Ai (imRow l)) => rnext_any t n s A len c ps Ai l.length ci (l.map Ch.Im.ix) wx wx.heap.size hlen hmax ((hr.bl hB hb).prs.more (Nat.le_trans hB hb.size)) (by rw [List.length_map]) hl (by rw [← imRow_ix]; exact hri) (Nat.le_refl _))
  have HLw := Lib.hid hlw
  clear hr hrw hlen hlw
  go_enter Try.func9, Try.ntmps9
  have k0 := HK0.out.cell 0
  have k1 := HK0.out.cell 1
  have k2 := HK0.out.cell 2
  have k3 := HK0.out.cell 3
  go_wp2_with fail
  refine HSe.out.mono ?_
  rintro e w1 ⟨A1, L, c1, rfl, hc1, hsr, hb1, hyes, hno⟩
  have HB1 := Lib.hid (HB0.out.trans hb1)
  have HK1 := Lib.hid (HK0.out.bl hb1)
  have HSR := Lib.hid hsr
  have HYes := Lib.hid hyes
  have HNo := Lib.hid hno
  -- what is known where there are sets
  have HFt : Hid (0 < L.length → Gr.Ok ⟨t, n, s, ps⟩ ∧ xs.length ≤ 24 ∧ (∀ x ∈ xs, 0 ≤ x ∧ x < 16) ∧ L.length = xs.length + 1 ∧ ∀ (b : Nat) (l : List Ch.Im), L[b]? = some l → l.length ≤ 13500) := fun hpos => by
    cases hf : fitB ⟨t, n, s, ps⟩ xs with
    | false => rw [hno hf] at hpos; simp at hpos
    | true =>
      obtain ⟨hok, _, h24⟩ := fit_good hf
      have hset := hyes hf
      refine ⟨hok, h24, fun x hx => ?_, hset.1, fun b l hl => ?_⟩
      · have h2 := ((Wd.fits_iff _ _).1 (fitB_iff.mp hf).2)
        have h3 := h2.2 x hx
        have h4 := ((Wd.okW_iff xs).1 h2.1).2 x hx
        have h5 := hok.2.1
        simp only at h3 h5
        omega
      · exact inc_few hok (hset.2 b l hl).1 (hset.2 b l hl).2 (by have := Ch.lt_of_get hl; have := hset.1; omega)
  clear hb1 hsr hyes hno k0 k1 k2 k3 hc1
  generalize hLL : L.length = ll at *
  have HLL := Lib.hid hLL
  clear hLL
  go_wp2_with fail
  go_loopw [8] (fun i wr => ∃ k : Nat, k ≤ ll ∧ i = .int .i64 k ∧ Hid (stopFrom ⟨t, n, s, ps⟩ xs 0 L = stopFrom ⟨t, n, s, ps⟩ xs k (L.drop k)) ∧ Hid (Bk wr w.heap.size 24 #[.int .i64 t, .int .i64 n, .int .i64 s, .slice A len c]) ∧ Hid (SetsR wr A1 L) ∧ Hid (Bl w wr)) (fun i _ => ll - (intOf i).toNat)
  case atStart => exact ⟨0, Nat.zero_le _, rfl, rfl, HK1.out, HSR.out, HB1.out⟩
  case round =>
    obtain ⟨k, hk, rfl, HSt, HK, HS, HB⟩ := hrel
    by_cases hlt : k < ll
    · have hik : (k : Int) < (ll : Int) := by omega
      have hk0 : (0 : Int) ≤ (k : Int) := by omega
      have hlt2 : k < L.length := by have := HLL.out; omega
      obtain ⟨hok, h24, htok, hllen, hfew⟩ := HFt.out (by omega)
      have hl25 : ll ≤ 25 := by omega
      clear hllen
      obtain ⟨b, off, Ai, ci, rfl, hbb, hc0, hci, hri⟩ := HS.out.at_ hlt2
      have hl2 := hfew k _ (List.getElem?_eq_getElem hlt2)
      have HCall := Lib.hid (HNt.out Ai ci L[k] wr.drew HB.out.drew (by omega) hri)
      have HSd := Lib.hid (stopFrom_drop (g := ⟨t, n, s, ps⟩) (wd := xs) hlt2)
      have HNl := Lib.hid (nxtN_lt ⟨t, n, s, ps⟩ (L[k].map Ch.Im.ix))
      generalize nxtN ⟨t, n, s, ps⟩ (L[k].map Ch.Im.ix) = z at *
      generalize L[k].length = lk at *
      clear hri hci hl2 hfew hlt2
      have HPx : Hid (∀ wx, Bl wr wx → wx.cell? ⟨w.heap.size, 0, none⟩ = some (.int .i64 t) ∧ wx.cell? ⟨w.heap.size, 1, none⟩ = some (.int .i64 n) ∧ wx.cell? ⟨w.heap.size, 2, none⟩ = some (.int .i64 s) ∧ wx.cell? ⟨w.heap.size, 3, none⟩ = some (.slice A len c) ∧ wx.cell? ⟨b, off + k, none⟩ = some (.slice Ai lk ci)) := fun wx hb => by
        have h1 := HK.out.bl hb
        exact ⟨h1.cell 0, h1.cell 1, h1.cell 2, h1.cell 3, (Below.cell hb (p := ⟨b, off + k, none⟩) hbb).trans hc0⟩
      have HBd : Hid (Bl wr wr.drew) := (Bl.refl wr).drew
      have tk1 : True := trivial
      clear hc0
      go_upto_region 5 with fail
      go_region_held3 (fun wx => wx.cell? ⟨w.heap.size, 0, none⟩ = some (.int .i64 t) ∧ wx.cell? ⟨w.heap.size, 1, none⟩ = some (.int .i64 n) ∧ wx.cell? ⟨w.heap.size, 2, none⟩ = some (.int .i64 s) ∧ wx.cell? ⟨w.heap.size, 3, none⟩ = some (.slice A len c) ∧ wx.cell? ⟨b, off + k, none⟩ = some (.slice Ai lk ci))
        (first | exact HPx.out _ HBd.out | exact HPx.out _ HB5d.out) (first
        | (go_at_call 14; have _t := tk1; ((with_reducible refine HCall.out.mono ?_); rintro e w5 ⟨rfl, hb5⟩; have HB5d : Hid (Bl wr w5) := Bl.undrew hb5; clear tk1 hb5))
        | fail)
      have HK5 := Lib.hid (HK.out.bl HB5d.out)
      have HS5 := Lib.hid (HS.out.bl HB5d.out)
      have HB5 := Lib.hid (HB.out.trans HB5d.out)
      have HZ : Hid (z < 4294967296) := by have := HNl.out; show _ < _; omega
      clear HPx HBd HCall HB5d HK HS HB
      by_cases hkw : k < lw
      · have hkx : k < xs.length := by have := HLw.out; omega
        obtain ⟨bw, ow, rfl, hbw, cw0⟩ := (HRw.out w5 HB5.out).int hkx
        have hbwl : bw < w5.heap.size := by have := HB5.out.size; omega
        have hkwi : (k : Int) < (lw : Int) := by omega
        obtain ⟨x, hx, hx16⟩ : ∃ x : Nat, xs[k] = (x : Int) ∧ x < 16 := by
          have := htok xs[k] (List.getElem_mem hkx)
          exact ⟨xs[k].toNat, by omega, by omega⟩
        have HWt : Hid (wantAt xs k = x) := by
          show _ = _
          unfold wantAt
          rw [List.getElem?_eq_getElem hkx]
          show xs[k].toNat = x
          omega
        rw [hx] at cw0
        clear hkx hx htok
        go_wp2_with fail
        go_loopw [10, 12] (fun v i wr => ∃ j : Nat, j ≤ x ∧ i = .int .i64 (j : Int) ∧ v = .int .u32 ((z / 2 ^ j : Nat) : Int) ∧ wr = w5) (fun _ i _ => x - (intOf i).toNat)
        case atStart => exact ⟨0, Nat.zero_le _, rfl, by simp, rfl⟩
        case round =>
          obtain ⟨j, hj, rfl, rfl, rfl⟩ := hrel
          by_cases hjx : j < x
          · have hji : (j : Int) < (x : Int) := by omega
            have HE : Hid (z / 2 ^ j / 2 = z / 2 ^ (j + 1)) := by show _ = _; rw [Nat.div_div_eq_div_mul, Nat.pow_succ]
            have HQl : Hid (z / 2 ^ j < 4294967296) := Nat.lt_of_le_of_lt (Nat.div_le_self _ _) HZ.out
            generalize z / 2 ^ j = y at *
            have hy9 : y < 4294967296 := HQl.out
            go_wp2_with fail
            go_roundw
            case rel => exact ⟨j + 1, by omega, by go_num, by rw [← HE.out, Int.natCast_ediv]; rfl, trivial⟩
            case measure => simp [intOf]; omega
          · have hji : ¬ (j : Int) < (x : Int) := by omega
            have hjx2 : j = x := by omega
            subst hjx2
            have hb := Nat.testBit_eq_decide_div_mod_eq (x := z) (i := j)
            have HQl : Hid (z / 2 ^ j < 4294967296) := Nat.lt_of_le_of_lt (Nat.div_le_self _ _) HZ.out
            generalize z / 2 ^ j = y at *
            have hy9 : y < 4294967296 := HQl.out
            cases hbit : z.testBit j with
            | true =>
              rw [hbit] at hb
              have HN : Hid (stopFrom ⟨t, n, s, ps⟩ xs 0 L = stopFrom ⟨t, n, s, ps⟩ xs (k + 1) (L.drop (k + 1))) := by show _ = _; rw [HSt.out, HSd.out, HWt.out, if_pos hbit]
              have hym : (y : Int) % 2 = 1 := by have := of_decide_eq_true hb.symm; omega
              clear hb hbit
              go_wp2_with fail
              go_roundw
              case rel => exact ⟨k + 1, by omega, by go_num, HN.out, HK5.out, HS5.out, HB5.out⟩
              case measure => simp [intOf]; omega
            | false =>
              rw [hbit] at hb
              have HN : Hid (stopFrom ⟨t, n, s, ps⟩ xs 0 L = some (k, z)) := by show _ = _; rw [HSt.out, HSd.out, HWt.out, if_neg (by rw [hbit]; simp)]
              have hym : (y : Int) % 2 = 0 := by have := of_decide_eq_false hb.symm; omega
              clear hb hbit
              go_wp2_with fail
              go_ret3
              exact ⟨L, HYes.out, HNo.out, by rw [HN.out]; rfl, HB5.out⟩
      · have hkwi : ¬ (k : Int) < (lw : Int) := by omega
        have HWt : Hid (wantAt xs k = 16) := by
          show _ = _
          unfold wantAt
          rw [List.getElem?_eq_none (by have := HLw.out; omega)]
        obtain ⟨x, hx16, hx⟩ : ∃ x : Nat, x < 17 ∧ x = 16 := ⟨16, by omega, rfl⟩
        rw [← hx] at HWt
        have hxi : (16 : Int) = (x : Int) := by omega
        clear htok
        go_wp2_with fail
        rw [hxi]
        clear hx hxi
        go_loopw [10, 12] (fun v i wr => ∃ j : Nat, j ≤ x ∧ i = .int .i64 (j : Int) ∧ v = .int .u32 ((z / 2 ^ j : Nat) : Int) ∧ wr = w5) (fun _ i _ => x - (intOf i).toNat)
        case atStart => exact ⟨0, Nat.zero_le _, rfl, by simp, rfl⟩
        case round =>
          obtain ⟨j, hj, rfl, rfl, rfl⟩ := hrel
          by_cases hjx : j < x
          · have hji : (j : Int) < (x : Int) := by omega
            have HE : Hid (z / 2 ^ j / 2 = z / 2 ^ (j + 1)) := by show _ = _; rw [Nat.div_div_eq_div_mul, Nat.pow_succ]
            have HQl : Hid (z / 2 ^ j < 4294967296) := Nat.lt_of_le_of_lt (Nat.div_le_self _ _) HZ.out
            generalize z / 2 ^ j = y at *
            have hy9 : y < 4294967296 := HQl.out
            go_wp2_with fail
            go_roundw
            case rel => exact ⟨j + 1, by omega, by go_num, by rw [← HE.out, Int.natCast_ediv]; rfl, trivial⟩
            case measure => simp [intOf]; omega
          · have hji : ¬ (j : Int) < (x : Int) := by omega
            have hjx2 : j = x := by omega
            subst hjx2
            have hb := Nat.testBit_eq_decide_div_mod_eq (x := z) (i := j)
            have HQl : Hid (z / 2 ^ j < 4294967296) := Nat.lt_of_le_of_lt (Nat.div_le_self _ _) HZ.out
            generalize z / 2 ^ j = y at *
            have hy9 : y < 4294967296 := HQl.out
            cases hbit : z.testBit j with
            | true =>
              rw [hbit] at hb
              have HN : Hid (stopFrom ⟨t, n, s, ps⟩ xs 0 L = stopFrom ⟨t, n, s, ps⟩ xs (k + 1) (L.drop (k + 1))) := by show _ = _; rw [HSt.out, HSd.out, HWt.out, if_pos hbit]
              have hym : (y : Int) % 2 = 1 := by have := of_decide_eq_true hb.symm; omega
              clear hb hbit
              go_wp2_with fail
              go_roundw
              case rel => exact ⟨k + 1, by omega, by go_num, HN.out, HK5.out, HS5.out, HB5.out⟩
              case measure => simp [intOf]; omega
            | false =>
              rw [hbit] at hb
              have HN : Hid (stopFrom ⟨t, n, s, ps⟩ xs 0 L = some (k, z)) := by show _ = _; rw [HSt.out, HSd.out, HWt.out, if_neg (by rw [hbit]; simp)]
              have hym : (y : Int) % 2 = 0 := by have := of_decide_eq_false hb.symm; omega
              clear hb hbit
              go_wp2_with fail
              go_ret3
              exact ⟨L, HYes.out, HNo.out, by rw [HN.out]; rfl, HB5.out⟩
    · have hik : ¬ (k : Int) < (ll : Int) := by omega
      have HN : Hid (stopFrom ⟨t, n, s, ps⟩ xs 0 L = none) := by show _ = _; rw [HSt.out, List.drop_of_length_le (by have := HLL.out; omega)]; rfl
      go_wp2_with fail
      go_ret3
      exact ⟨L, HYes.out, HNo.out, by rw [HN.out]; rfl, HB.out⟩
end Go.Proofs.Ytckckejgocbkkaa
