/- probatelaw11.there: are symbols a grammar's? -/
import Derived.Test.YtebjbahbaiialaaFMem
import Derived.OwnWalk
namespace Go.Proofs.Ytebjbahbaiialaa
open Go.RowKit

theorem okSy_low {t n sn : Int} {sb : Bool} (h : sn < 0) : okSyB t n ⟨sb, sn⟩ = false := belowB_no (.inl h)
theorem okSy_non {t n sn : Int} (h : n ≤ sn) : okSyB t n ⟨true, sn⟩ = false := belowB_no (.inr h)
theorem okSy_term {t n sn : Int} (h : t ≤ sn) : okSyB t n ⟨false, sn⟩ = false := belowB_no (.inr h)
theorem okSy_nonY {t n sn : Int} (h : 0 ≤ sn) (h' : sn < n) : okSyB t n ⟨true, sn⟩ = true := (belowB_iff _ _).2 ⟨h, h'⟩
theorem okSy_termY {t n sn : Int} (h : 0 ≤ sn) (h' : sn < t) : okSyB t n ⟨false, sn⟩ = true := (belowB_iff _ _).2 ⟨h, h'⟩

set_option maxRecDepth 100000 in
set_option maxHeartbeats 2000000 in
theorem there_any (t n s : Int) (A : Option Addr) (len c : Nat) (Ax : Option Addr) (lx cx : Nat) (l : List Gr.Sy) (w : World) (B : Nat)
    (hl : lx = l.length) (hmax : lx ≤ 9223372036854775807) (hr : Rd w B Ax (syRow l)) (hB : B ≤ w.heap.size) :
    Calls Try.prog 14 #[.agg #[.int .i64 t, .int .i64 n, .int .i64 s, .slice A len c], .slice Ax lx cx] w fun e w' => e = .returned (.bool (l.all (okSyB t n))) ∧ Bl w w' := by
  have HL := Lib.hid hl; clear hl
  have HA := Lib.hid hr; clear hr
  have HB0 : Hid (Bl w (w.alloc (.cells #[.int .i64 t, .int .i64 n, .int .i64 s, .slice A len c] 24))) := (Bl.refl w).alloc _
  have HG0 : Hid (Bk (w.alloc (.cells #[.int .i64 t, .int .i64 n, .int .i64 s, .slice A len c] 24)) w.heap.size 24 #[.int .i64 t, .int .i64 n, .int .i64 s, .slice A len c]) := Bk.new w _ _
  go_enter Try.func14, Try.ntmps14
  go_wp2_with fail
  generalize hw0 : w.alloc (.cells #[.int .i64 t, .int .i64 n, .int .i64 s, .slice A len c] 24) = w0 at HB0 HG0 ⊢
  have HW0 := Lib.hid hw0; clear hw0
  go_loopw [9] (fun i wr => ∃ k : Nat, k ≤ lx ∧ i = .int .i64 k ∧ Hid (∀ x ∈ l.take k, okSyB t n x = true) ∧ Hid (Bl w0 wr)) (fun i _ => lx - (intOf i).toNat)
  case atStart => exact ⟨0, Nat.zero_le _, rfl, by simp [Hid], Bl.refl w0⟩
  case round =>
    obtain ⟨k, hk, rfl, HT, HB⟩ := hrel
    by_cases hlt : k < lx
    · have hj : k < l.length := by have := HL.out; omega
      obtain ⟨b, off, rfl, hbB, q0, q1⟩ := (HA.out.bl hB (HB0.out.trans HB.out)).sym hj
      have HGood := Lib.hid (all_snoc hj HT.out)
      have HBad : Hid (okSyB t n l[k] = false → l.all (okSyB t n) = false) := fun h => by
        rw [Bool.eq_false_iff]
        intro e
        rw [List.all_eq_true] at e
        rw [e _ (List.getElem_mem hj)] at h
        cases h
      have HG := Lib.hid (HG0.out.bl HB.out)
      have g0 : wr.cell? ⟨w.heap.size, 0, none⟩ = some (.int .i64 t) := HG.out.cell 0
      have g1 : wr.cell? ⟨w.heap.size, 1, none⟩ = some (.int .i64 n) := HG.out.cell 1
      have glt : w.heap.size < wr.heap.size := HG.out.lt
      generalize l[k] = y at *
      obtain ⟨yb, yn⟩ := y
      simp only at q0 q1
      clear hj
      by_cases h0 : yn < 0
      · have HX := Lib.hid (HBad.out (okSy_low h0))
        go_wp2_with fail
        go_ret
        exact ⟨by rw [HX.out]; rfl, (HB0.out.trans HB.out).alloc _⟩
      cases yb with
      | true =>
        by_cases h1 : n ≤ yn
        · have HX := Lib.hid (HBad.out (okSy_non h1))
          go_wp2_with fail
          go_ret
          exact ⟨by rw [HX.out]; rfl, (HB0.out.trans HB.out).alloc _⟩
        · have HX := Lib.hid (HGood.out (okSy_nonY (by omega) (by omega)))
          go_wp2_with fail
          go_roundw
          case rel => exact ⟨k + 1, by omega, by go_num, HX.out, HB.out.alloc _⟩
          case measure => simp [intOf]; omega
      | false =>
        by_cases h1 : t ≤ yn
        · have HX := Lib.hid (HBad.out (okSy_term h1))
          go_wp2_with fail
          go_ret
          exact ⟨by rw [HX.out]; rfl, (HB0.out.trans HB.out).alloc _⟩
        · have HX := Lib.hid (HGood.out (okSy_termY (by omega) (by omega)))
          go_wp2_with fail
          go_roundw
          case rel => exact ⟨k + 1, by omega, by go_num, HX.out, HB.out.alloc _⟩
          case measure => simp [intOf]; omega
    · have hx : l.all (okSyB t n) = true := by
        have h := HT.out
        rw [List.take_of_length_le (by have := HL.out; omega)] at h
        exact List.all_eq_true.2 h
      have HX := Lib.hid hx; clear hx
      go_wp2_with fail
      go_ret
      exact ⟨by rw [HX.out]; rfl, HB0.out.trans HB.out⟩
end Go.Proofs.Ytebjbahbaiialaa
