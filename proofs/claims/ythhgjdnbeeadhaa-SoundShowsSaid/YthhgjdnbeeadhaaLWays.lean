/- left.Way, left.Leads: a way that is told, and that steps are one. -/
import Derived.Test.YthhgjdnbeeadhaaLBfs
import Derived.Test.YthhgjdnbeeadhaaLSteps
import Derived.Test.YthhgjdnbeeadhaaSdShows
namespace Go.Proofs.Ythhgjdnbeeadhaa
open Go.RowKit

set_option maxRecDepth 100000 in
set_option maxHeartbeats 4000000 in
theorem way_law : WayC := by
  intro t n s A len c ps m w B hlen hmax hr hB hok hm
  have HL := Lib.hid hlen; clear hlen
  have HP : Hid (∀ w', Bl w w' → Prs w' w'.heap.size A ps) := fun _ hb => (hr.prs.bl hB hb).more (Nat.le_trans hB hb.size)
  clear hr hB
  have HOK := Lib.hid hok
  have HLf : Hid (Sd.leftB ⟨t, n, s, ps⟩ m = true ↔ Lf.LeftRec ps (Fi.nulls ⟨t, n, s, ps⟩) m) := Sd.left_is (g := ⟨t, n, s, ps⟩) ((okB_iff _).1 hok)
  have hWay : ∀ (bm : Nat) (v : World), Bl w v → ToMap v bm ps (Fi.nulls ⟨t, n, s, ps⟩) → Calls Try.prog 22 #[.agg #[.int .i64 t, .int .i64 n, .int .i64 s, .slice A len c], .map (some bm), .int .i64 (m : Int)] v fun e v' =>
      ∃ (A' : Option Addr) (l' c' : Nat) (l : List Lf.Stp), e = .returned (.slice A' l' c') ∧ l' = l.length ∧ l' ≤ 100 ∧ Rd v' v'.heap.size A' (stRow l) ∧ Sd.leftB ⟨t, n, s, ps⟩ m = decide (0 < l') ∧ (0 < l' → Lf.Way ps (Fi.nulls ⟨t, n, s, ps⟩) m l m) ∧ Bl v v' := by
    intro bm v hv hmp
    refine (way_any t n s A len c ps _ bm m v _ HL.out (HP.out v hv) (Nat.le_refl _) HOK.out hm hmp).mono ?_
    rintro e v' ⟨h | ⟨g, cap, l, hw, hne, hl, he, hrd⟩, hb⟩
    · refine ⟨none, 0, 0, [], h.2, rfl, by omega, Rd.nil, ?_, fun h0 => absurd h0 (by omega), hb⟩
      rw [decide_eq_false (by omega), Bool.eq_false_iff]
      exact fun h2 => h.1 (HLf.out.1 h2)
    · have hpos : 0 < l.length := List.length_pos_iff.2 hne
      refine ⟨some ⟨g, 0, none⟩, l.length, cap, l, he, rfl, by omega, hrd, ?_, fun _ => hw, hb⟩
      rw [decide_eq_true hpos]
      exact HLf.out.2 ⟨l, hne, hw⟩
  have HWay := Lib.hid hWay
  clear hWay HLf hm hok
  have HB0 : Hid (Bl w (w.alloc (.cells #[.int .i64 t, .int .i64 n, .int .i64 s, .slice A len c] 24))) := (Bl.refl w).alloc _
  have HK0 := Lib.hid (Bk.new w 24 #[.int .i64 t, .int .i64 n, .int .i64 s, .slice A len c])
  go_enter Try.func12, Try.ntmps12
  go_wp2_with fail
  refine (right_any t n s A len c ps _ _ HL.out hmax (HP.out _ HB0.out) (Nat.le_refl _)).mono ?_
  rintro e w1 ⟨rfl, hb1⟩
  rw [HOK.out]
  have HB1 := Lib.hid (HB0.out.trans hb1)
  have HK1 := Lib.hid (HK0.out.bl hb1)
  clear hb1 HB0 HK0
  have HKc := Lib.hid HK1.out
  have tk1 : True := trivial
  have tk2 : True := trivial
  go_wp2_with fail
  go_region_held3 (fun w' => w'.cell? ⟨w.heap.size, 0, none⟩ = some (.int .i64 t) ∧ w'.cell? ⟨w.heap.size, 1, none⟩ = some (.int .i64 n) ∧ w'.cell? ⟨w.heap.size, 2, none⟩ = some (.int .i64 s) ∧ w'.cell? ⟨w.heap.size, 3, none⟩ = some (.slice A len c)) (exact ⟨HKc.out.cell 0, HKc.out.cell 1, HKc.out.cell 2, HKc.out.cell 3⟩) (first
    | (go_at_call 23; have _t := tk1; ((with_reducible refine (steps_any t n s A len c ps _ w1.heap.size HL.out (prs_drew (HP.out w1 HB1.out)) (Nat.le_refl _) HOK.out).mono ?_); rintro e v2 ⟨bm, rfl, _, hmp, hb2⟩; have HM2 := Lib.hid hmp; have HB2 := Lib.hid (HB1.out.trans (Bl.undrew hb2)); have HKx := Lib.hid (HK1.out.bl (Bl.undrew hb2)); clear HKc; have HKc := Lib.hid HKx.out; clear HKx hmp hb2; clear tk1))
    | (go_at_call 22; have _t := tk2; ((with_reducible refine (HWay.out _ _ HB2.out HM2.out).mono ?_); rintro e v3 ⟨A7, l7, c7, l, rfl, h7⟩; have HX := Lib.hid h7; clear h7; have HKx := Lib.hid (HKc.out.bl HX.out.2.2.2.2.2); clear HKc; have HKc := Lib.hid HKx.out; clear HKx; clear tk2))
    | fail)
  all_goals
    go_wp2_with fail
    go_ret
    exact ⟨A7, l7, c7, l, rfl, HX.out.1, HX.out.2.1, HX.out.2.2.1, HX.out.2.2.2.1, HX.out.2.2.2.2.1, HB2.out.trans HX.out.2.2.2.2.2⟩
end Go.Proofs.Ythhgjdnbeeadhaa
