/- The reference's lists, written. -/
import Derived.Test.YtmegpmkjhbihaaaVRPut
import Derived.Test.YtmegpmkjhbihaaaWWtr
namespace Go.Proofs.Ytmegpmkjhbihaaa
open Go.RowKit

theorem enc_put (n : Nat) : Vy.put 9 n = Vy.enc n := rfl

set_option maxRecDepth 100000 in
set_option maxHeartbeats 400000 in
/-- The bytes of a list, as the reference makes them. -/
theorem refnums_any (A : Option Addr) (len cap : Nat) (xs : List Int) (w : World) (B : Nat) (hlen : len = xs.length) (hmax : len ≤ 1000000000) (hr : Rd w B A (ins xs)) (hB : B ≤ w.heap.size) (hx : ∀ n ∈ xs, 0 ≤ n ∧ n < 9223372036854775808) :
    Calls Try.prog 23 #[.slice A len cap] w (Makes (Wr.wnums xs) w) := by
  obtain ⟨i0, hi, hz0, hz1, hz2⟩ := info_parts byte_info
  have HL := Lib.hid hlen; clear hlen
  have HA := Lib.hid hr; clear hr
  have HX := Lib.hid hx; clear hx
  have HY := Lib.hid (wsome_len xs)
  have hwr : IntKind.u64.wrap (len : Int) = (len : Int) := IntWalk.u64_in _ ⟨by omega, by omega⟩
  go_enter Try.func23, Try.ntmps23
  go_wp2_with fail
  refine (rput_any 9 len _ (Nat.lt_of_lt_of_le (show len < 18446744073709551616 by omega) (by decide)) (Nat.le_refl _) (by omega)).mono ?_
  rintro e w0 ⟨A0, n0, c0, rfl, hn0, hc0, hown0, hb0⟩
  rw [hn0] at hown0
  have HO0 : Hid (w0.ownsRow w.heap.size 5 1 (.slice A0 n0 c0) (wsome xs 0).length (bys (wsome xs 0))) := by
    have e : wsome xs 0 = Vy.enc len := by unfold wsome; rw [← HL.out]; simp
    unfold Hid
    rw [e]
    rw [hn0]
    exact hown0
  have HB0 : Hid (Bl w w0) := hb0
  clear hn0 hown0 hb0
  go_wp2_with fail
  go_loopw [3, 4] (fun v i wr => ∃ k : Nat, k ≤ len ∧ i = .int .i64 k ∧ Hid (wr.ownsRow w.heap.size 5 1 v (wsome xs k).length (bys (wsome xs k))) ∧ Hid (Bl w wr)) (fun _ i _ => len - (intOf i).toNat)
  case atStart => exact ⟨0, Nat.zero_le _, rfl, HO0, HB0⟩
  case round =>
    obtain ⟨k, hk, rfl, HOk, HBk⟩ := hrel
    by_cases hlt : k < len
    · have hj : k < xs.length := by have := HL.out; omega
      obtain ⟨b, off, rfl, hbB, hcell⟩ := (HA.out.bl hB HBk.out).int hj
      have hxk := HX.out _ (List.getElem_mem hj)
      have HN := Lib.hid (wsome_next hj)
      have hyk := HY.out k
      generalize hm0 : xs[k] = m at hcell hxk HN
      obtain ⟨m0, rfl⟩ : ∃ m0 : Nat, m = (m0 : Int) := ⟨m.toNat, by omega⟩
      have hwm : IntKind.u64.wrap (m0 : Int) = (m0 : Int) := IntWalk.u64_in _ ⟨by omega, by omega⟩
      clear hm0 hj
      go_wp2_with fail
      refine (rput_any 9 m0 _ (Nat.lt_of_lt_of_le (show m0 < 18446744073709551616 by omega) (by decide)) (Nat.le_refl _) (by omega)).mono ?_
      rintro e w1 ⟨A1, n1, c1, rfl, hn1, hc1, hown1, hb1⟩
      have hs1 : w.heap.size ≤ w1.heap.size := Nat.le_trans HBk.out.size (Bl.own hb1).size
      have hel := (Vy.enc_len m0).2
      have hn10 : n1 ≤ 10 := Nat.le_trans (Nat.le_of_eq hn1) hel
      have HN1 : Hid (n1 = (Vy.enc m0).length) := hn1
      have HO1 : Hid (w1.ownsRow wr.heap.size 5 1 (.slice A1 n1 c1) n1 (bys (Vy.enc m0))) := hown1
      have HB1 : Hid (Bl w w1) := HBk.out.trans hb1
      have HOw := Lib.hid (own_bl HOk.out hb1)
      clear hn1 hown1 hb1 hel
      go_wp2_with (at_builtin; refine wpList_append_rd _ rfl (.tmp 15) (.tmp 21) 26 rfl w.heap.size 5 i0 (.int .u8 0) 1 Try.underlying26 hi hz0 hz1 hz2 rfl _ _ _ rfl HOw.out w1.heap.size A1 n1 c1 (bys (Vy.enc m0)) rfl (Rd.own HO1.out) ((bys_len _).trans HN1.out.symm) (bys_one _) (by simp only [maxLen]; omega) (by omega) hs1 ?_; intro v2 w2 hown2 hg2 _; have HO2 := Lib.hid hown2; have HB2 := Lib.hid (HB1.out.grown hg2 fun i h => (HOw.out.lt i h).1); clear hown2 hg2)
      go_roundw
      case rel =>
        refine ⟨k + 1, by omega, by go_num, ?_, HB2⟩
        have h := HO2.out
        unfold Hid
        rw [HN.out, bys_append, List.length_append]
        rw [HN1.out] at h
        exact h
      case measure => simp [intOf]; omega
    · go_wp2_with fail
      go_ret
      have e : k = xs.length := by have := HL.out; omega
      subst e
      have h := HOk.out
      rw [wsome_all] at h
      obtain ⟨A9, c9, hv, hc⟩ := own_slice h
      exact ⟨A9, _, c9, congrArg Ending.returned hv, rfl, hc, by rw [← hv]; exact h, HBk.out⟩
end Go.Proofs.Ytmegpmkjhbihaaa
