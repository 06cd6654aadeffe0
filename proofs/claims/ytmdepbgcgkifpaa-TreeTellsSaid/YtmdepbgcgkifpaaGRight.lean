/- gram.Right: may a grammar be? -/
import Derived.Test.YtmdepbgcgkifpaaGMem
namespace Go.Proofs.Ytmdepbgcgkifpaa
open Go.RowKit

set_option maxHeartbeats 400000 in
theorem below_any (n m : Int) (w : World) : Calls Try.prog 31 #[.int .i64 n, .int .i64 m] w fun e w' => e = .returned (.bool (belowB n m)) ∧ w = w' := by
  by_cases h1 : 0 ≤ n
  · by_cases h2 : n < m
    · have HG : Hid (belowB n m = true) := (belowB_iff n m).2 ⟨h1, h2⟩
      go_enter Try.func31, Try.ntmps31
      go_wp2_with fail
      go_ret
      exact ⟨by rw [HG.out]; rfl, rfl⟩
    · have HG : Hid (belowB n m = false) := belowB_no (by omega)
      go_enter Try.func31, Try.ntmps31
      go_wp2_with fail
      go_ret
      exact ⟨by rw [HG.out]; rfl, rfl⟩
  · have HG : Hid (belowB n m = false) := belowB_no (by omega)
    go_enter Try.func31, Try.ntmps31
    go_wp2_with fail
    go_ret
    exact ⟨by rw [HG.out]; rfl, rfl⟩

set_option maxHeartbeats 400000 in
theorem rightSym_any (t n s : Int) (A : Option Addr) (len c : Nat) (b : Bool) (k : Int) (w : World) :
    Calls Try.prog 35 #[.agg #[.int .i64 t, .int .i64 n, .int .i64 s, .slice A len c], .agg #[.bool b, .int .i64 k]] w fun e w' => e = .returned (.bool (okSyB t n ⟨b, k⟩)) ∧ Bl w w' := by
  cases b with
  | true =>
    have HG : Hid (okSyB t n ⟨true, k⟩ = belowB k n) := rfl
    go_enter Try.func35, Try.ntmps35
    go_wp2_with fail
    refine (below_any k n _).mono ?_
    rintro e w' ⟨rfl, rfl⟩
    go_wp2_with fail
    go_ret
    exact ⟨by rw [HG.out]; rfl, ((Bl.refl w).alloc _).alloc _⟩
  | false =>
    have HG : Hid (okSyB t n ⟨false, k⟩ = belowB k t) := rfl
    go_enter Try.func35, Try.ntmps35
    go_wp2_with fail
    refine (below_any k t _).mono ?_
    rintro e w' ⟨rfl, rfl⟩
    go_wp2_with fail
    go_ret
    exact ⟨by rw [HG.out]; rfl, ((Bl.refl w).alloc _).alloc _⟩

set_option maxRecDepth 100000 in
set_option maxHeartbeats 1000000 in
theorem rightProd_any (t n s : Int) (A : Option Addr) (len c : Nat) (l : Int) (Ax : Option Addr) (lx cx : Nat) (ss : List Gr.Sy) (w : World) (B : Nat) (hlen : lx = ss.length) (hr : Rd w B Ax (syRow ss)) (hB : B ≤ w.heap.size) :
    Calls Try.prog 32 #[.agg #[.int .i64 t, .int .i64 n, .int .i64 s, .slice A len c], .agg #[.int .i64 l, .slice Ax lx cx]] w fun e w' => e = .returned (.bool (okPrB t n ⟨l, ss⟩)) ∧ Bl w w' := by
  have HL := Lib.hid hlen; clear hlen
  have HA := Lib.hid hr; clear hr
  have HB0 : Hid (Bl w ((w.alloc (.cells #[.int .i64 t, .int .i64 n, .int .i64 s, .slice A len c] 24)).alloc (.cells #[.int .i64 l, .slice Ax lx cx] 46))) := ((Bl.refl w).alloc _).alloc _
  have HK0 := Lib.hid ((Bk.new w 24 #[.int .i64 t, .int .i64 n, .int .i64 s, .slice A len c]).alloc (.cells #[.int .i64 l, .slice Ax lx cx] 46))
  by_cases h1 : 0 ≤ l ∧ l < n
  · have hb : Hid (belowB l n = true) := (belowB_iff l n).2 h1
    obtain ⟨h1a, h1b⟩ := h1
    by_cases h8 : 8 < lx
    · have HG : Hid (okPrB t n ⟨l, ss⟩ = false) := okPrB_no (by have := HL.out; omega)
      go_enter Try.func32, Try.ntmps32
      go_wp2_with fail
      refine (below_any l n _).mono ?_
      rintro e w' ⟨rfl, rfl⟩
      rw [hb.out]
      go_wp2_with fail
      go_ret
      exact ⟨by rw [HG.out]; rfl, HB0.out⟩
    · go_enter Try.func32, Try.ntmps32
      go_wp2_with fail
      refine (below_any l n _).mono ?_
      rintro e w' ⟨rfl, rfl⟩
      rw [hb.out]
      go_wp2_with fail
      generalize hw0 : (w.alloc (.cells #[.int .i64 t, .int .i64 n, .int .i64 s, .slice A len c] 24)).alloc (.cells #[.int .i64 l, .slice Ax lx cx] 46) = w0 at HB0 HK0 ⊢
      have HW0 := Lib.hid hw0; clear hw0
      go_loopw [22] (fun i wr => ∃ k : Nat, k ≤ lx ∧ i = .int .i64 k ∧ Hid (∀ x ∈ ss.take k, okSyB t n x = true) ∧ Hid (Bl w0 wr)) (fun i _ => lx - (intOf i).toNat)
      case atStart => exact ⟨0, Nat.zero_le _, rfl, by simp [Hid], Bl.refl w0⟩
      case round =>
        obtain ⟨k, hk, rfl, HF, HB⟩ := hrel
        by_cases hlt : k < lx
        · have hj : k < ss.length := by have := HL.out; omega
          obtain ⟨b, off, rfl, hbB, hc0, hc1⟩ := (HA.out.bl hB (HB0.out.trans HB.out)).sym hj
          have HBad := Lib.hid (fun h => okPrB_one (t := t) (n := n) (l := l) hj h)
          have HGood := Lib.hid (all_snoc hj HF.out)
          generalize ss[k] = x at *
          obtain ⟨xb, xn⟩ := x
          simp only at hc0 hc1
          clear hj
          have HKr := Lib.hid (HK0.out.bl HB.out)
          have k0 : wr.cell? ⟨w.heap.size, 0, none⟩ = some (.int .i64 t) := HKr.out.cell 0
          have k1 : wr.cell? ⟨w.heap.size, 1, none⟩ = some (.int .i64 n) := HKr.out.cell 1
          have k2 : wr.cell? ⟨w.heap.size, 2, none⟩ = some (.int .i64 s) := HKr.out.cell 2
          have k3 : wr.cell? ⟨w.heap.size, 3, none⟩ = some (.slice A len c) := HKr.out.cell 3
          have klt : w.heap.size < wr.heap.size := HKr.out.lt
          cases hx : okSyB t n ⟨xb, xn⟩ with
          | true =>
            have HX := Lib.hid hx; clear hx
            go_wp2_with fail
            refine (rightSym_any t n s A len c xb xn _).mono ?_
            rintro e w1 ⟨rfl, hb1⟩
            rw [HX.out]
            have HB1 := Lib.hid ((HB.out.alloc _).trans hb1); clear hb1
            go_wp2_with fail
            go_roundw
            case rel => exact ⟨k + 1, by omega, by go_num, HGood.out HX.out, HB1.out⟩
            case measure => simp [intOf]; omega
          | false =>
            have HX := Lib.hid hx; clear hx
            have HG := Lib.hid (HBad.out HX.out)
            go_wp2_with fail
            refine (rightSym_any t n s A len c xb xn _).mono ?_
            rintro e w1 ⟨rfl, hb1⟩
            rw [HX.out]
            have HB1 := Lib.hid ((HB.out.alloc _).trans hb1); clear hb1
            go_wp2_with fail
            go_ret
            exact ⟨by rw [HG.out]; rfl, HB0.out.trans HB1.out⟩
        · go_wp2_with fail
          go_ret
          have hg : okPrB t n ⟨l, ss⟩ = true := okPrB_all h1a h1b (by have := HL.out; omega) (by
            have h := HF.out
            rw [List.take_of_length_le (by have := HL.out; omega)] at h
            exact h)
          exact ⟨by rw [hg]; rfl, HB0.out.trans HB.out⟩
  · have hb : Hid (belowB l n = false) := belowB_no (by omega)
    have HG : Hid (okPrB t n ⟨l, ss⟩ = false) := okPrB_no (by omega)
    clear h1
    go_enter Try.func32, Try.ntmps32
    go_wp2_with fail
    refine (below_any l n _).mono ?_
    rintro e w' ⟨rfl, rfl⟩
    rw [hb.out]
    go_wp2_with fail
    go_ret
    exact ⟨by rw [HG.out]; rfl, HB0.out⟩

set_option maxRecDepth 100000 in
set_option maxHeartbeats 1000000 in
theorem right_any (t n s : Int) (A : Option Addr) (len c : Nat) (ps : List Gr.Pr) (w : World) (B : Nat) (hlen : len = ps.length) (hmax : len ≤ 9223372036854775807) (hr : Prs w B A ps) (hB : B ≤ w.heap.size) :
    Calls Try.prog 23 #[.agg #[.int .i64 t, .int .i64 n, .int .i64 s, .slice A len c]] w fun e w' => e = .returned (.bool (okB ⟨t, n, s, ps⟩)) ∧ Bl w w' := by
  have HL := Lib.hid hlen; clear hlen
  have HA := Lib.hid hr; clear hr
  have HB0 : Hid (Bl w (w.alloc (.cells #[.int .i64 t, .int .i64 n, .int .i64 s, .slice A len c] 24))) := (Bl.refl w).alloc _
  have HK0 := Lib.hid (Bk.new w 24 #[.int .i64 t, .int .i64 n, .int .i64 s, .slice A len c])
  by_cases h1 : t < 0
  · have HG : Hid (okB ⟨t, n, s, ps⟩ = false) := okB_no (by omega)
    go_enter Try.func23, Try.ntmps23
    go_wp2_with fail
    go_ret
    exact ⟨by rw [HG.out]; rfl, HB0.out⟩
  by_cases h2 : 16 < t
  · have HG : Hid (okB ⟨t, n, s, ps⟩ = false) := okB_no (by omega)
    go_enter Try.func23, Try.ntmps23
    go_wp2_with fail
    go_ret
    exact ⟨by rw [HG.out]; rfl, HB0.out⟩
  by_cases h3 : n < 1
  · have HG : Hid (okB ⟨t, n, s, ps⟩ = false) := okB_no (by omega)
    go_enter Try.func23, Try.ntmps23
    go_wp2_with fail
    go_ret
    exact ⟨by rw [HG.out]; rfl, HB0.out⟩
  by_cases h4 : 24 < n
  · have HG : Hid (okB ⟨t, n, s, ps⟩ = false) := okB_no (by omega)
    go_enter Try.func23, Try.ntmps23
    go_wp2_with fail
    go_ret
    exact ⟨by rw [HG.out]; rfl, HB0.out⟩
  by_cases h5 : 0 ≤ s ∧ s < n
  · have hb : Hid (belowB s n = true) := (belowB_iff s n).2 h5
    obtain ⟨h5a, h5b⟩ := h5
    by_cases h6 : 60 < len
    · have HG : Hid (okB ⟨t, n, s, ps⟩ = false) := okB_no (by have := HL.out; omega)
      go_enter Try.func23, Try.ntmps23
      go_wp2_with fail
      refine (below_any s n _).mono ?_
      rintro e w' ⟨rfl, rfl⟩
      rw [hb.out]
      go_wp2_with fail
      go_ret
      exact ⟨by rw [HG.out]; rfl, HB0.out⟩
    · go_enter Try.func23, Try.ntmps23
      go_wp2_with fail
      refine (below_any s n _).mono ?_
      rintro e w' ⟨rfl, rfl⟩
      rw [hb.out]
      go_wp2_with fail
      generalize hw0 : w.alloc (.cells #[.int .i64 t, .int .i64 n, .int .i64 s, .slice A len c] 24) = w0 at HB0 HK0 ⊢
      have HW0 := Lib.hid hw0; clear hw0
      go_loopw [38] (fun i wr => ∃ k : Nat, k ≤ len ∧ i = .int .i64 k ∧ Hid (∀ x ∈ ps.take k, okPrB t n x = true) ∧ Hid (Bl w0 wr)) (fun i _ => len - (intOf i).toNat)
      case atStart => exact ⟨0, Nat.zero_le _, rfl, by simp [Hid], Bl.refl w0⟩
      case round =>
        obtain ⟨k, hk, rfl, HF, HB⟩ := hrel
        by_cases hlt : k < len
        · have hj : k < ps.length := by have := HL.out; omega
          obtain ⟨b, off, Ax, cx, rfl, hbB, hrx, hc0, hc1⟩ := (HA.out.bl hB (HB0.out.trans HB.out)).at_ hj
          have HBad := Lib.hid (fun h => okB_one (t := t) (n := n) (s := s) hj h)
          have HGood := Lib.hid (all_snoc hj HF.out)
          have HRX := Lib.hid hrx
          generalize ps[k] = x at *
          obtain ⟨xl, xs⟩ := x
          simp only at hc0 hc1
          clear hj hrx
          have HKr := Lib.hid (HK0.out.bl HB.out)
          have k0 : wr.cell? ⟨w.heap.size, 0, none⟩ = some (.int .i64 t) := HKr.out.cell 0
          have k1 : wr.cell? ⟨w.heap.size, 1, none⟩ = some (.int .i64 n) := HKr.out.cell 1
          have k2 : wr.cell? ⟨w.heap.size, 2, none⟩ = some (.int .i64 s) := HKr.out.cell 2
          have k3 : wr.cell? ⟨w.heap.size, 3, none⟩ = some (.slice (some ⟨b, off, none⟩) len c) := HKr.out.cell 3
          have klt : w.heap.size < wr.heap.size := HKr.out.lt
          have hBr : B ≤ wr.heap.size := Nat.le_trans hB (HB0.out.trans HB.out).size
          cases hx : okPrB t n ⟨xl, xs⟩ with
          | true =>
            have HX := Lib.hid hx; clear hx
            go_wp2_with fail
            refine (rightProd_any t n s _ len c xl Ax xs.length cx xs _ B rfl (HRX.out.alloc hBr _) (by simp; omega)).mono ?_
            rintro e w1 ⟨rfl, hb1⟩
            rw [HX.out]
            have HB1 := Lib.hid ((HB.out.alloc _).trans hb1); clear hb1
            go_wp2_with fail
            go_roundw
            case rel => exact ⟨k + 1, by omega, by go_num, HGood.out HX.out, HB1.out⟩
            case measure => simp [intOf]; omega
          | false =>
            have HX := Lib.hid hx; clear hx
            have HG := Lib.hid (HBad.out HX.out)
            go_wp2_with fail
            refine (rightProd_any t n s _ len c xl Ax xs.length cx xs _ B rfl (HRX.out.alloc hBr _) (by simp; omega)).mono ?_
            rintro e w1 ⟨rfl, hb1⟩
            rw [HX.out]
            have HB1 := Lib.hid ((HB.out.alloc _).trans hb1); clear hb1
            go_wp2_with fail
            go_ret
            exact ⟨by rw [HG.out]; rfl, HB0.out.trans HB1.out⟩
        · go_wp2_with fail
          go_ret
          have hg : okB ⟨t, n, s, ps⟩ = true := okB_all (by omega) (by omega) (by omega) (by omega) h5a h5b (by have := HL.out; omega) (by
            have h := HF.out
            rw [List.take_of_length_le (by have := HL.out; omega)] at h
            exact h)
          exact ⟨by rw [hg]; rfl, HB0.out.trans HB.out⟩
  · have hb : Hid (belowB s n = false) := belowB_no (by omega)
    have HG : Hid (okB ⟨t, n, s, ps⟩ = false) := okB_no (by omega)
    clear h5
    go_enter Try.func23, Try.ntmps23
    go_wp2_with fail
    refine (below_any s n _).mono ?_
    rintro e w' ⟨rfl, rfl⟩
    rw [hb.out]
    go_wp2_with fail
    go_ret
    exact ⟨by rw [HG.out]; rfl, HB0.out⟩
end Go.Proofs.Ytmdepbgcgkifpaa
