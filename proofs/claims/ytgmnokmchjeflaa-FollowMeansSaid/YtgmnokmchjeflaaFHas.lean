/- first.has, first.Of's closure, and slices.ContainsFunc with it: is each symbol one of the grammar's? -/
import Derived.Test.YtgmnokmchjeflaaFMem
import Derived.OwnWalk
namespace Go.Proofs.Ytgmnokmchjeflaa
open Go.RowKit

set_option maxRecDepth 100000 in
set_option maxHeartbeats 1000000 in
theorem has_any (t n s : Int) (A : Option Addr) (len c : Nat) (sb : Bool) (sn : Int) (w : World) :
    Calls Try.prog 22 #[.agg #[.int .i64 t, .int .i64 n, .int .i64 s, .slice A len c], .agg #[.bool sb, .int .i64 sn]] w fun e w' =>
      e = .returned (.bool (okSyB t n ⟨sb, sn⟩)) ∧ Bl w w' := by
  have HB : Hid (Bl w ((w.alloc (.cells #[.int .i64 t, .int .i64 n, .int .i64 s, .slice A len c] 24)).alloc (.cells #[.bool sb, .int .i64 sn] 39))) := ((Bl.refl w).alloc _).alloc _
  have HV : Hid (okSyB t n ⟨sb, sn⟩ = (decide (0 ≤ sn) && decide (sn < if sb then n else t))) := by
    unfold okSyB belowB
    exact Bool.decide_and _ _
  by_cases h0 : sn < 0
  · have HX : Hid (okSyB t n ⟨sb, sn⟩ = false) := by rw [HV.out, decide_eq_false (by omega)]; rfl
    cases sb with
    | true =>
      go_enter Try.func22, Try.ntmps22
      go_wp2_with fail
      go_ret
      exact ⟨by rw [HX.out]; rfl, HB.out⟩
    | false =>
      go_enter Try.func22, Try.ntmps22
      go_wp2_with fail
      go_ret
      exact ⟨by rw [HX.out]; rfl, HB.out⟩
  · have h1 : 0 ≤ sn := by omega
    cases sb with
    | true =>
      have HX : Hid (okSyB t n ⟨true, sn⟩ = decide (sn < n)) := by rw [HV.out, decide_eq_true h1, Bool.true_and]; rfl
      go_enter Try.func22, Try.ntmps22
      go_wp2_with fail
      go_ret
      exact ⟨by rw [HX.out]; rfl, HB.out⟩
    | false =>
      have HX : Hid (okSyB t n ⟨false, sn⟩ = decide (sn < t)) := by rw [HV.out, decide_eq_true h1, Bool.true_and]; rfl
      go_enter Try.func22, Try.ntmps22
      go_wp2_with fail
      go_ret
      exact ⟨by rw [HX.out]; rfl, HB.out⟩

set_option maxRecDepth 100000 in
set_option maxHeartbeats 1000000 in
theorem alien_any (t n s : Int) (A : Option Addr) (len c gg : Nat) (sb : Bool) (sn : Int) (w : World) (hg : Bk w gg 24 #[.int .i64 t, .int .i64 n, .int .i64 s, .slice A len c]) :
    Calls Try.prog 21 #[.agg #[.bool sb, .int .i64 sn], .pointer (some ⟨gg, 0, none⟩)] w fun e w' => e = .returned (.bool (!okSyB t n ⟨sb, sn⟩)) ∧ Bl w w' := by
  have HB : Hid (Bl w (w.alloc (.cells #[.bool sb, .int .i64 sn] 39))) := (Bl.refl w).alloc _
  have k0 : w.cell? ⟨gg, 0, none⟩ = some (.int .i64 t) := hg.cell 0
  have k1 : w.cell? ⟨gg, 1, none⟩ = some (.int .i64 n) := hg.cell 1
  have k2 : w.cell? ⟨gg, 2, none⟩ = some (.int .i64 s) := hg.cell 2
  have k3 : w.cell? ⟨gg, 3, none⟩ = some (.slice A len c) := hg.cell 3
  have klt : gg < w.heap.size := hg.lt
  go_enter Try.func21, Try.ntmps21
  go_wp2_with fail
  refine (has_any t n s A len c sb sn _).mono ?_
  rintro e w1 ⟨rfl, hb1⟩
  have HB1 := Lib.hid (HB.out.trans hb1)
  clear hb1
  go_wp2_with fail
  go_ret
  exact ⟨rfl, HB1.out⟩

/-- What IndexFunc tells. -/
def FoundA (t n : Int) (l : List Gr.Sy) (r : Int) : Prop := (r < 0 ∧ l.all (okSyB t n) = true) ∨ (0 ≤ r ∧ l.all (okSyB t n) = false)
set_option maxRecDepth 100000 in
set_option maxHeartbeats 1000000 in
theorem indexa_any (t n s : Int) (A : Option Addr) (len c gg : Nat) (Ax : Option Addr) (lx cx : Nat) (l : List Gr.Sy) (w : World) (B : Nat)
    (hg : Bk w gg 24 #[.int .i64 t, .int .i64 n, .int .i64 s, .slice A len c]) (hl : lx = l.length) (hmax : lx ≤ 9223372036854775807) (hr : Rd w B Ax (syRow l)) (hB : B ≤ w.heap.size) :
    Calls Try.prog 29 #[.slice Ax lx cx, .func (.func 21) #[] #[.pointer (some ⟨gg, 0, none⟩)]] w fun e w' => ∃ r : Int, e = .returned (.int .i64 r) ∧ FoundA t n l r ∧ Bl w w' := by
  have HL := Lib.hid hl; clear hl
  have HA := Lib.hid hr; clear hr
  have HG := Lib.hid hg; clear hg
  go_enter Try.func29, Try.ntmps29
  go_wp2_with fail
  go_loopw [8] (fun i wr => ∃ k : Nat, k ≤ lx ∧ i = .int .i64 k ∧ Hid (∀ x ∈ l.take k, okSyB t n x = true) ∧ Hid (Bl w wr)) (fun i _ => lx - (intOf i).toNat)
  case atStart => exact ⟨0, Nat.zero_le _, rfl, by simp [Hid], Bl.refl w⟩
  case round =>
    obtain ⟨k, hk, rfl, HT, HB⟩ := hrel
    by_cases hlt : k < lx
    · have hj : k < l.length := by have := HL.out; omega
      obtain ⟨b, off, rfl, hbB, q0, q1⟩ := (HA.out.bl hB HB.out).sym hj
      have HGood := Lib.hid (all_snoc hj HT.out)
      have HC := Lib.hid (alien_any t n s A len c gg l[k].non l[k].n wr (HG.out.bl HB.out))
      have HE : Hid (okSyB t n ⟨l[k].non, l[k].n⟩ = okSyB t n l[k]) := rfl
      have HF : Hid (okSyB t n l[k] = false → FoundA t n l (k : Int)) := fun h => .inr ⟨by omega, by
        rw [Bool.eq_false_iff]
        intro e
        rw [List.all_eq_true] at e
        rw [e _ (List.getElem_mem hj)] at h
        cases h⟩
      generalize l[k] = y at *
      obtain ⟨yb, yn⟩ := y
      simp only at q0 q1
      clear hj
      go_wp2_with fail
      refine HC.out.mono ?_
      rintro e w1 ⟨rfl, hb1⟩
      have HB1 := Lib.hid (HB.out.trans hb1); clear hb1 HC
      cases hv : okSyB t n ⟨yb, yn⟩ with
      | false =>
        have HX := Lib.hid (HF.out hv)
        clear hv
        go_wp2_with fail
        go_ret
        exact ⟨_, rfl, HX.out, HB1.out⟩
      | true =>
        have HX := Lib.hid (HGood.out hv)
        clear hv
        go_wp2_with fail
        go_roundw
        case rel => exact ⟨k + 1, by omega, by go_num, HX.out, HB1.out⟩
        case measure => simp [intOf]; omega
    · go_wp2_with fail
      go_ret
      refine ⟨-1, rfl, .inl ⟨by decide, ?_⟩, HB.out⟩
      have h := HT.out
      rw [List.take_of_length_le (by have := HL.out; omega)] at h
      exact List.all_eq_true.2 h
set_option maxRecDepth 100000 in
set_option maxHeartbeats 1000000 in
theorem aliens_any (t n s : Int) (A : Option Addr) (len c gg : Nat) (Ax : Option Addr) (lx cx : Nat) (l : List Gr.Sy) (w : World) (B : Nat)
    (hg : Bk w gg 24 #[.int .i64 t, .int .i64 n, .int .i64 s, .slice A len c]) (hl : lx = l.length) (hmax : lx ≤ 9223372036854775807) (hr : Rd w B Ax (syRow l)) (hB : B ≤ w.heap.size) :
    Calls Try.prog 20 #[.slice Ax lx cx, .func (.func 21) #[] #[.pointer (some ⟨gg, 0, none⟩)]] w fun e w' => e = .returned (.bool (!l.all (okSyB t n))) ∧ Bl w w' := by
  have HC := Lib.hid (indexa_any t n s A len c gg Ax lx cx l w B hg hl hmax hr hB)
  clear hg hl hr
  go_enter Try.func20, Try.ntmps20
  go_wp2_with fail
  refine HC.out.mono ?_
  rintro e w1 ⟨r, rfl, hf, hb1⟩
  have HB1 := Lib.hid hb1
  have HD : Hid (decide ((0 : Int) ≤ r) = !l.all (okSyB t n)) := by
    rcases hf with ⟨h, e⟩ | ⟨h, e⟩
    · rw [e, decide_eq_false (by omega)]; rfl
    · rw [e, decide_eq_true h]; rfl
  clear hb1 hf
  go_wp2_with fail
  go_ret
  exact ⟨by rw [← HD.out]; rfl, HB1.out⟩
end Go.Proofs.Ytgmnokmchjeflaa
