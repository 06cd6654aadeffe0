/- The reference's Right: may a grammar be? -/
import Derived.Test.YtmdepbgcgkifpaaGMem
namespace Go.Proofs.Ytmdepbgcgkifpaa
open Go.RowKit

theorem sy_neg {t n xn : Int} {xb : Bool} (h : xn < 0) : okSyB t n ⟨xb, xn⟩ = false := belowB_no (.inl h)
theorem sy_non {t n xn : Int} (h : n ≤ xn) : okSyB t n ⟨true, xn⟩ = false := belowB_no (.inr h)
theorem sy_term {t n xn : Int} (h : t ≤ xn) : okSyB t n ⟨false, xn⟩ = false := belowB_no (.inr h)
theorem sy_non_ok {t n xn : Int} (h0 : 0 ≤ xn) (h : xn < n) : okSyB t n ⟨true, xn⟩ = true := (belowB_iff _ _).2 ⟨h0, h⟩
theorem sy_term_ok {t n xn : Int} (h0 : 0 ≤ xn) (h : xn < t) : okSyB t n ⟨false, xn⟩ = true := (belowB_iff _ _).2 ⟨h0, h⟩

set_option maxRecDepth 100000 in
set_option maxHeartbeats 2000000 in
theorem rright_any (t n s : Int) (A : Option Addr) (len c : Nat) (ps : List Gr.Pr) (w : World) (B : Nat) (hlen : len = ps.length) (hmax : len ≤ 9223372036854775807) (hr : Prs w B A ps) (hB : B ≤ w.heap.size) :
    Calls Try.prog 19 #[.agg #[.int .i64 t, .int .i64 n, .int .i64 s, .slice A len c]] w fun e w' => e = .returned (.bool (okB ⟨t, n, s, ps⟩)) ∧ Bl w w' := by
  have HL := Lib.hid hlen; clear hlen
  have HA := Lib.hid hr; clear hr
  have HB0 : Hid (Bl w (w.alloc (.cells #[.int .i64 t, .int .i64 n, .int .i64 s, .slice A len c] 24))) := (Bl.refl w).alloc _
  have HK0 := Lib.hid (Bk.new w 24 #[.int .i64 t, .int .i64 n, .int .i64 s, .slice A len c])
  by_cases h1 : t < 0
  · have HG : Hid (okB ⟨t, n, s, ps⟩ = false) := okB_no (by omega)
    go_enter Try.func19, Try.ntmps19
    go_wp2_with fail
    go_ret
    exact ⟨by rw [HG.out]; rfl, HB0.out⟩
  by_cases h2 : 16 < t
  · have HG : Hid (okB ⟨t, n, s, ps⟩ = false) := okB_no (by omega)
    go_enter Try.func19, Try.ntmps19
    go_wp2_with fail
    go_ret
    exact ⟨by rw [HG.out]; rfl, HB0.out⟩
  by_cases h3 : n < 1
  · have HG : Hid (okB ⟨t, n, s, ps⟩ = false) := okB_no (by omega)
    go_enter Try.func19, Try.ntmps19
    go_wp2_with fail
    go_ret
    exact ⟨by rw [HG.out]; rfl, HB0.out⟩
  by_cases h4 : 24 < n
  · have HG : Hid (okB ⟨t, n, s, ps⟩ = false) := okB_no (by omega)
    go_enter Try.func19, Try.ntmps19
    go_wp2_with fail
    go_ret
    exact ⟨by rw [HG.out]; rfl, HB0.out⟩
  by_cases h5 : s < 0
  · have HG : Hid (okB ⟨t, n, s, ps⟩ = false) := okB_no (by omega)
    go_enter Try.func19, Try.ntmps19
    go_wp2_with fail
    go_ret
    exact ⟨by rw [HG.out]; rfl, HB0.out⟩
  by_cases h6 : n ≤ s
  · have HG : Hid (okB ⟨t, n, s, ps⟩ = false) := okB_no (by omega)
    go_enter Try.func19, Try.ntmps19
    go_wp2_with fail
    go_ret
    exact ⟨by rw [HG.out]; rfl, HB0.out⟩
  by_cases h7 : 60 < len
  · have HG : Hid (okB ⟨t, n, s, ps⟩ = false) := okB_no (by have := HL.out; omega)
    go_enter Try.func19, Try.ntmps19
    go_wp2_with fail
    go_ret
    exact ⟨by rw [HG.out]; rfl, HB0.out⟩
  go_enter Try.func19, Try.ntmps19
  go_wp2_with fail
  generalize hw0 : w.alloc (.cells #[.int .i64 t, .int .i64 n, .int .i64 s, .slice A len c] 24) = w0 at HB0 HK0 ⊢
  have HW0 := Lib.hid hw0; clear hw0
  go_loopw [3] (fun i wr => ∃ k : Nat, k ≤ len ∧ i = .int .i64 k ∧ Hid (∀ x ∈ ps.take k, okPrB t n x = true) ∧ Hid (Bl w0 wr)) (fun i _ => len - (intOf i).toNat)
  case atStart => exact ⟨0, Nat.zero_le _, rfl, by simp [Hid], Bl.refl w0⟩
  case round =>
    obtain ⟨k, hk, rfl, HF, HB⟩ := hrel
    obtain ⟨wo, rfl⟩ : ∃ wo : World, wo = wr := ⟨_, rfl⟩
    have HKr := Lib.hid (HK0.out.bl HB.out)
    have k0 : wo.cell? ⟨w.heap.size, 0, none⟩ = some (.int .i64 t) := HKr.out.cell 0
    have k1 : wo.cell? ⟨w.heap.size, 1, none⟩ = some (.int .i64 n) := HKr.out.cell 1
    have k2 : wo.cell? ⟨w.heap.size, 2, none⟩ = some (.int .i64 s) := HKr.out.cell 2
    have k3 : wo.cell? ⟨w.heap.size, 3, none⟩ = some (.slice A len c) := HKr.out.cell 3
    have klt : w.heap.size < wo.heap.size := HKr.out.lt
    by_cases hlt : k < len
    · have hj : k < ps.length := by have := HL.out; omega
      obtain ⟨b, off, Ax, cx, rfl, hbB, hrx, hc0, hc1⟩ := (HA.out.bl hB (HB0.out.trans HB.out)).at_ hj
      have HBad := Lib.hid (fun h => okB_one (t := t) (n := n) (s := s) hj h)
      have HGood := Lib.hid (all_snoc hj HF.out)
      have HRX := Lib.hid hrx
      generalize ps[k] = x at *
      obtain ⟨xl, xs⟩ := x
      simp only at hc0 hc1
      clear hj hrx
      have hBr : B ≤ wo.heap.size := Nat.le_trans hB (HB0.out.trans HB.out).size
      by_cases g1 : xl < 0
      · have HG := Lib.hid (HBad.out (okPrB_no (.inl g1)))
        go_wp2_with fail
        go_ret
        exact ⟨by rw [HG.out]; rfl, (HB0.out.trans HB.out).alloc _⟩
      by_cases g2 : n ≤ xl
      · have HG := Lib.hid (HBad.out (okPrB_no (.inr (.inl g2))))
        go_wp2_with fail
        go_ret
        exact ⟨by rw [HG.out]; rfl, (HB0.out.trans HB.out).alloc _⟩
      by_cases g3 : 8 < xs.length
      · have HG := Lib.hid (HBad.out (okPrB_no (.inr (.inr g3))))
        go_wp2_with fail
        go_ret
        exact ⟨by rw [HG.out]; rfl, (HB0.out.trans HB.out).alloc _⟩
      have HB2 : Hid (Bl w0 (wo.alloc (.cells #[.int .i64 xl, .slice Ax xs.length cx] 46))) := HB.out.alloc _
      have HP2 := Lib.hid (Bk.new wo 46 #[.int .i64 xl, .slice Ax xs.length cx])
      have HR2 := Lib.hid (HRX.out.alloc hBr (.cells #[.int .i64 xl, .slice Ax xs.length cx] 46))
      have hsz2 : B ≤ (wo.alloc (.cells #[.int .i64 xl, .slice Ax xs.length cx] 46)).heap.size := by simp; omega
      go_wp2_with fail
      generalize hw2 : wo.alloc (.cells #[.int .i64 xl, .slice Ax xs.length cx] 46) = w2 at HB2 HP2 HR2 hsz2 ⊢
      have HW2 := Lib.hid hw2; clear hw2
      obtain ⟨gp, hgp⟩ : ∃ gp : Nat, gp = wo.heap.size := ⟨_, rfl⟩
      rw [← hgp] at HP2 ⊢
      have HGP := Lib.hid hgp; clear hgp
      clear k0 k1 k2 k3 hc0 hc1
      go_loopw [5] (fun i wr => ∃ j : Nat, j ≤ xs.length ∧ i = .int .i64 j ∧ Hid (∀ x ∈ xs.take j, okSyB t n x = true) ∧ Hid (Bl w2 wr)) (fun i _ => xs.length - (intOf i).toNat)
      case atStart => exact ⟨0, Nat.zero_le _, rfl, by simp [Hid], Bl.refl w2⟩
      case round =>
        obtain ⟨j, hjl, rfl, HFj, HBj⟩ := hrel
        have HKj := Lib.hid (HK0.out.bl (HB2.out.trans HBj.out))
        have HPj := Lib.hid (HP2.out.bl HBj.out)
        have k0 : wr.cell? ⟨w.heap.size, 0, none⟩ = some (.int .i64 t) := HKj.out.cell 0
        have k1 : wr.cell? ⟨w.heap.size, 1, none⟩ = some (.int .i64 n) := HKj.out.cell 1
        have p1 : wr.cell? ⟨gp, 1, none⟩ = some (.slice Ax xs.length cx) := HPj.out.cell 1
        have klt2 : w.heap.size < wr.heap.size := HKj.out.lt
        have plt2 : gp < wr.heap.size := HPj.out.lt
        by_cases hlt2 : j < xs.length
        · obtain ⟨bx, ox, rfl, hbx, q0, q1⟩ := (HR2.out.bl hsz2 HBj.out).sym hlt2
          have HBad2 := Lib.hid (fun h => okPrB_one (t := t) (n := n) (l := xl) hlt2 h)
          have HGood2 := Lib.hid (all_snoc hlt2 HFj.out)
          generalize xs[j] = y at *
          obtain ⟨yb, yn⟩ := y
          simp only at q0 q1
          by_cases y1 : yn < 0
          · have HG := Lib.hid (HBad.out (HBad2.out (sy_neg y1)))
            cases yb
            all_goals
              go_wp2_with fail
              go_ret
              exact ⟨by rw [HG.out]; rfl, (HB0.out.trans (HB2.out.trans HBj.out)).alloc _⟩
          cases yb with
          | true =>
            by_cases y2 : n ≤ yn
            · have HG := Lib.hid (HBad.out (HBad2.out (sy_non y2)))
              go_wp2_with fail
              go_ret
              exact ⟨by rw [HG.out]; rfl, (HB0.out.trans (HB2.out.trans HBj.out)).alloc _⟩
            · have HY := Lib.hid (HGood2.out (sy_non_ok (by omega) (by omega)))
              go_wp2_with fail
              go_roundw
              case rel => exact ⟨j + 1, by omega, by go_num, HY.out, HBj.out.alloc _⟩
              case measure => simp [intOf]; omega
          | false =>
            by_cases y2 : t ≤ yn
            · have HG := Lib.hid (HBad.out (HBad2.out (sy_term y2)))
              go_wp2_with fail
              go_ret
              exact ⟨by rw [HG.out]; rfl, (HB0.out.trans (HB2.out.trans HBj.out)).alloc _⟩
            · have HY := Lib.hid (HGood2.out (sy_term_ok (by omega) (by omega)))
              go_wp2_with fail
              go_roundw
              case rel => exact ⟨j + 1, by omega, by go_num, HY.out, HBj.out.alloc _⟩
              case measure => simp [intOf]; omega
        · have HY := Lib.hid (HGood.out (okPrB_all (by omega) (by omega) (by omega) (by
            have h := HFj.out
            rw [List.take_of_length_le (by omega)] at h
            exact h)))
          go_wp2_with fail
          go_roundw
          case rel => exact ⟨k + 1, by omega, by go_num, HY.out, HB2.out.trans HBj.out⟩
          case measure => simp [intOf]; omega
    · go_wp2_with fail
      go_ret
      have hg : okB ⟨t, n, s, ps⟩ = true := okB_all (by omega) (by omega) (by omega) (by omega) (by omega) (by omega) (by have := HL.out; omega) (by
        have h := HF.out
        rw [List.take_of_length_le (by have := HL.out; omega)] at h
        exact h)
      exact ⟨by rw [hg]; rfl, HB0.out.trans HB.out⟩
end Go.Proofs.Ytmdepbgcgkifpaa
