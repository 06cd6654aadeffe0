/- The reference's Check: is a grammar sound? -/
import Derived.Test.YthhgjdnbeeadhaaSdOf
import Derived.Test.YthhgjdnbeeadhaaLWay
import Derived.Test.YthhgjdnbeeadhaaERReach
namespace Go.Proofs.Ythhgjdnbeeadhaa
open Go.RowKit

set_option maxRecDepth 100000 in
set_option maxHeartbeats 8000000 in
theorem rcheck_any (t n s : Int) (A : Option Addr) (len c : Nat) (ps : List Gr.Pr) (w : World) (B : Nat) (hlen : len = ps.length) (hmax : len ≤ 9223372036854775807) (hr : Prs w B A ps) (hB : B ≤ w.heap.size) :
    Calls Try.prog 8 #[.agg #[.int .i64 t, .int .i64 n, .int .i64 s, .slice A len c]] w fun e w' =>
      e = .returned (.tuple #[.int .i64 (chkOf ⟨t, n, s, ps⟩).1, .int .i64 (chkOf ⟨t, n, s, ps⟩).2]) ∧ Bl w w' := by
  have HL := Lib.hid hlen; clear hlen
  have HP : Hid (∀ w', Bl w w' → Prs w' w'.heap.size A ps) := fun _ hb => (hr.bl hB hb).more (Nat.le_trans hB hb.size)
  clear hr hB
  have HB0 : Hid (Bl w (w.alloc (.cells #[.int .i64 t, .int .i64 n, .int .i64 s, .slice A len c] 24))) := (Bl.refl w).alloc _
  have HK0 := Lib.hid (Bk.new w 24 #[.int .i64 t, .int .i64 n, .int .i64 s, .slice A len c])
  go_enter Try.func8, Try.ntmps8
  go_wp2_with fail
  refine (rright_any t n s A len c ps _ _ HL.out hmax (HP.out _ HB0.out) (Nat.le_refl _)).mono ?_
  rintro e w1 ⟨rfl, hb1⟩
  have HB1 := Lib.hid (HB0.out.trans hb1)
  have HK1 := Lib.hid (HK0.out.bl hb1)
  clear hb1 HB0 HK0
  cases hok : okB ⟨t, n, s, ps⟩ with
  | false =>
    have HE := Lib.hid (chkOf_no hok)
    go_wp2_with fail
    go_ret2
    exact ⟨by rw [HE.out]; rfl, HB1.out⟩
  | true =>
  obtain ⟨n1, n2, n3⟩ := ok_nons hok
  obtain ⟨N, rfl⟩ : ∃ N : Nat, n = (N : Int) := ⟨n.toNat, by omega⟩
  have HE := Lib.hid (chkOf_ok hok)
  have HOK := Lib.hid hok
  have HYes : Hid (factsOf true ⟨t, (N : Int), s, ps⟩ = fz (Rk.ranks true ps N)) := factsOf_ok (terms := true) hok
  have HRe := Lib.hid (reachOf_ok hok)
  have HRl : Hid ((Rk.ranks true ps N).length = N) := Rk.ranks_length true ps N
  have HEl : Hid ((reachOf ⟨t, (N : Int), s, ps⟩).length = N) := reachOf_len hok
  have hlx60 : len ≤ 60 := by have := HL.out; omega
  clear hok
  have k0 : w1.cell? ⟨w.heap.size, 0, none⟩ = some (.int .i64 t) := HK1.out.cell 0
  have k1 : w1.cell? ⟨w.heap.size, 1, none⟩ = some (.int .i64 (N : Int)) := HK1.out.cell 1
  have k2 : w1.cell? ⟨w.heap.size, 2, none⟩ = some (.int .i64 s) := HK1.out.cell 2
  have k3 : w1.cell? ⟨w.heap.size, 3, none⟩ = some (.slice A len c) := HK1.out.cell 3
  go_wp2_with fail
  refine (rranks_any t N s A len c ps true _ _ HL.out hmax (HP.out _ HB1.out) (Nat.le_refl _)).mono ?_
  intro e w2 h
  obtain ⟨Af, cf, he, hof, hbf⟩ := h.lit (k := N) HYes.out (by rw [fz_len]; exact HRl.out)
  subst he
  have HB2 := Lib.hid (HB1.out.trans hbf)
  have HK2 := Lib.hid (HK1.out.bl hbf)
  have HF2 := Lib.hid hof
  clear h hof hbf k0 k1 k2 k3 HB1 HK1
  go_wp2_with fail
  go_loop [5] (fun i => ∃ j : Nat, j ≤ N ∧ i = .int .i64 j ∧ Hid (∀ q, q < j → Sd.deadB ⟨t, (N : Int), s, ps⟩ q = false)) (fun i => N - (intOf i).toNat)
  case atStart => exact ⟨0, Nat.zero_le _, rfl, fun q hq => absurd hq (by omega)⟩
  case round =>
    obtain ⟨j, hj, rfl, HT⟩ := hrel
    have k1 : w2.cell? ⟨w.heap.size, 1, none⟩ = some (.int .i64 (N : Int)) := HK2.out.cell 1
    have klt : w.heap.size < w2.heap.size := HK2.out.lt
    by_cases hlt : j < N
    · have hjl : j < (fz (Rk.ranks true ps N)).length := by rw [fz_len]; exact Nat.lt_of_lt_of_eq hlt HRl.out.symm
      obtain ⟨bf, of, rfl, hbf, f0, f1⟩ := HF2.out.fact hjl
      clear f1
      rw [fz_rank] at f0
      have HD : Hid (Sd.deadB ⟨t, (N : Int), s, ps⟩ j = decide (Rk.rk (Rk.ranks true ps N) j = 0)) := rfl
      clear hjl
      by_cases hz : Rk.rk (Rk.ranks true ps N) j = 0
      · have HX := Lib.hid (Sd.fault_dead (g := ⟨t, (N : Int), s, ps⟩) (Sd.least_at (show j < ((N : Int)).toNat from hlt) (by rw [HD.out]; exact decide_eq_true hz) HT.out))
        rw [hz] at f0
        clear hz
        go_wp2_with fail
        go_ret2
        exact ⟨by rw [HE.out, HX.out]; rfl, HB2.out⟩
      · have HX := Lib.hid (Sd.below_snoc HT.out (by rw [HD.out]; exact decide_eq_false hz))
        have hq : (((Rk.rk (Rk.ranks true ps N) j : Nat) : Int) == 0) = false := by simp; omega
        clear hz HD
        generalize Rk.rk (Rk.ranks true ps N) j = x at f0 hq
        go_wp2_with fail
        go_round
        case rel => exact ⟨j + 1, by omega, by go_num, HX.out⟩
        case measure => simp [intOf]; omega
    · have HN1 := Lib.hid (Sd.least_none.2 (fun q (hq : q < ((N : Int)).toNat) => HT.out q (by have : q < N := hq; omega)))
      clear HT
      have k0 : w2.cell? ⟨w.heap.size, 0, none⟩ = some (.int .i64 t) := HK2.out.cell 0
      have k2 : w2.cell? ⟨w.heap.size, 2, none⟩ = some (.int .i64 s) := HK2.out.cell 2
      have k3 : w2.cell? ⟨w.heap.size, 3, none⟩ = some (.slice A len c) := HK2.out.cell 3
      go_wp2_with fail
      refine (rreach_any t N s A len c ps _ _ HL.out hmax (HP.out _ HB2.out) (Nat.le_refl _)).mono ?_
      intro e w3 h
      obtain ⟨Ag, cg, he, hog, hbg⟩ := h.lit (k := N) HRe.out (by rw [← HRe.out]; exact HEl.out)
      subst he
      have HB3 := Lib.hid (HB2.out.trans hbg)
      have HK3 := Lib.hid (HK2.out.bl hbg)
      have HF3 := Lib.hid hog
      clear h hog hbg k0 k1 k2 k3 klt HB2 HK2
      go_wp2_with fail
      go_loop [6] (fun i => ∃ j : Nat, j ≤ N ∧ i = .int .i64 j ∧ Hid (∀ q, q < j → Sd.aloneB ⟨t, (N : Int), s, ps⟩ q = false)) (fun i => N - (intOf i).toNat)
      case atStart => exact ⟨0, Nat.zero_le _, rfl, fun q hq => absurd hq (by omega)⟩
      case round =>
        obtain ⟨j, hj, rfl, HT⟩ := hrel
        have k1 : w3.cell? ⟨w.heap.size, 1, none⟩ = some (.int .i64 (N : Int)) := HK3.out.cell 1
        have klt : w.heap.size < w3.heap.size := HK3.out.lt
        by_cases hlt : j < N
        · have hjl : j < (fz (Rc.reach ps ((N : Int)).toNat s.toNat)).length := by have h := HEl.out; rw [HRe.out] at h; exact Nat.lt_of_lt_of_eq hlt h.symm
          obtain ⟨bf, of, rfl, hbf, f0, f1⟩ := HF3.out.fact hjl
          clear f1
          rw [fz_rank] at f0
          have HD : Hid (Sd.aloneB ⟨t, (N : Int), s, ps⟩ j = decide (Rk.rk (Rc.reach ps ((N : Int)).toNat s.toNat) j = 0)) := rfl
          clear hjl
          generalize Rk.rk (Rc.reach ps ((N : Int)).toNat s.toNat) j = x at f0 HD
          by_cases hz : x = 0
          · have HX := Lib.hid (Sd.fault_alone (g := ⟨t, (N : Int), s, ps⟩) HN1.out (Sd.least_at (show j < ((N : Int)).toNat from hlt) (by rw [HD.out]; exact decide_eq_true hz) HT.out))
            subst hz
            go_wp2_with fail
            go_ret2
            exact ⟨by rw [HE.out, HX.out]; rfl, HB3.out⟩
          · have HX := Lib.hid (Sd.below_snoc HT.out (by rw [HD.out]; exact decide_eq_false hz))
            have hq : (((x : Nat) : Int) == 0) = false := by simp; omega
            clear hz HD
            go_wp2_with fail
            go_round
            case rel => exact ⟨j + 1, by omega, by go_num, HX.out⟩
            case measure => simp [intOf]; omega
        · have HN2 := Lib.hid (Sd.least_none.2 (fun q (hq : q < ((N : Int)).toNat) => HT.out q (by have : q < N := hq; omega)))
          clear HT
          go_wp2_with fail
          go_loopw [7] (fun i wr => ∃ j : Nat, j ≤ N ∧ i = .int .i64 j ∧ Hid (∀ q, q < j → Sd.leftB ⟨t, (N : Int), s, ps⟩ q = false) ∧ Hid (Bl w3 wr)) (fun i _ => N - (intOf i).toNat)
          case atStart => exact ⟨0, Nat.zero_le _, rfl, fun q hq => absurd hq (by omega), Bl.refl _⟩
          case round =>
            obtain ⟨j, hj, rfl, HT, HBr⟩ := hrel
            have HK4 := Lib.hid (HK3.out.bl HBr.out)
            have k0 : wr.cell? ⟨w.heap.size, 0, none⟩ = some (.int .i64 t) := HK4.out.cell 0
            have k1 : wr.cell? ⟨w.heap.size, 1, none⟩ = some (.int .i64 (N : Int)) := HK4.out.cell 1
            have k2 : wr.cell? ⟨w.heap.size, 2, none⟩ = some (.int .i64 s) := HK4.out.cell 2
            have k3 : wr.cell? ⟨w.heap.size, 3, none⟩ = some (.slice A len c) := HK4.out.cell 3
            have klt : w.heap.size < wr.heap.size := HK4.out.lt
            by_cases hlt : j < N
            · go_wp2_with fail
              refine (lway_any t N s A len c ps j _ _ HL.out (HP.out _ (HB3.out.trans HBr.out)) (Nat.le_refl _) HOK.out hlt).mono ?_
              rintro e w4 ⟨A4, l4, c4, rfl, hl4, _, hb4⟩
              have HB4 := Lib.hid (HBr.out.trans hb4)
              have HD : Hid (Sd.leftB ⟨t, (N : Int), s, ps⟩ j = decide (0 < l4)) := by rw [hl4]; rfl
              clear hl4 hb4 k0 k1 k2 k3 klt
              by_cases hz : 0 < l4
              · have HX := Lib.hid (Sd.fault_left (g := ⟨t, (N : Int), s, ps⟩) HN1.out HN2.out (Sd.least_at (show j < ((N : Int)).toNat from hlt) (by rw [HD.out]; exact decide_eq_true hz) HT.out))
                go_wp2_with fail
                go_ret2
                exact ⟨by rw [HE.out, HX.out]; rfl, HB3.out.trans HB4.out⟩
              · have HX := Lib.hid (Sd.below_snoc HT.out (by rw [HD.out]; exact decide_eq_false hz))
                go_wp2_with fail
                go_roundw
                case rel => exact ⟨j + 1, by omega, by go_num, HX.out, HB4.out⟩
                case measure => simp [intOf]; omega
            · have HN3 := Lib.hid (Sd.least_none.2 (fun q (hq : q < ((N : Int)).toNat) => HT.out q (by have : q < N := hq; omega)))
              have HX := Lib.hid (Sd.fault_none (g := ⟨t, (N : Int), s, ps⟩) HN1.out HN2.out HN3.out)
              go_wp2_with fail
              go_ret2
              exact ⟨by rw [HE.out, HX.out]; rfl, HB3.out.trans HBr.out⟩
end Go.Proofs.Ythhgjdnbeeadhaa
