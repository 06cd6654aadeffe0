/- VaryBack: numbers come back from their bytes. -/
import Derived.Test.YtldeickeicfbkaaVAwake
namespace Go.Proofs.Ytldeickeicfbkaa
open Go.RowKit

set_option maxRecDepth 100000 in
set_option maxHeartbeats 400000 in
theorem varyBack_any (n m : Nat) (A : Option Addr) (len cap : Nat) (l : List Nat) (w : World) (hn : n < 18446744073709551616) (hm : m < 18446744073709551616) (hl : len = l.length) (hr : Rd w w.heap.size A (bys l)) (hb : ∀ c ∈ l, c < 256) :
    Calls Try.prog 4 #[.int .u64 n, .int .u64 m, .slice A len cap] w fun e w' => e = .returned (.bool true) ∧ Below w.heap.size w w' := by
  obtain ⟨i0, hi, hz0, hz1, hz2⟩ := info_parts byte_info
  have HL := Lib.hid hl; clear hl
  have HR := Lib.hid hr; clear hr
  have HB := Lib.hid hb; clear hb
  by_cases h60 : 60 < len
  · go_enter Try.func4, Try.ntmps4
    go_wp2_with (go_at_call 6; refine (awake_any _).mono ?_; rintro e w1 ⟨rfl, hb1⟩)
    go_ret
    exact ⟨rfl, hb1⟩
  · go_enter Try.func4, Try.ntmps4
    go_wp2_with fail
    refine (awake_any _).mono ?_
    rintro e w1 ⟨rfl, hb1⟩
    have HB1 := Lib.hid hb1; clear hb1
    go_wp2_with fail
    refine (put_any n _ hn).mono ?_
    rintro e w2 ⟨A2, n2, c2, rfl, hn2, hc2, hown2, hb2⟩
    have hel := Vy.enc_len n
    have n2a : 0 < n2 := by omega
    have n2b : n2 ≤ 10 := by omega
    have e2 : ((n2 : Int) == 0) = false := by simp; omega
    have HN2 := Lib.hid hn2
    have HO2 := Lib.hid hown2
    have HB2 := Lib.hid hb2
    clear hn2 hown2 hb2 hel
    have hs2 : w1.heap.size ≤ w2.heap.size := HB2.out.size
    have own0 : Hid ((w2.alloc (.cells #[] 5)).ownsRow w2.heap.size 5 1 (.slice (some ⟨w2.heap.size, 0, none⟩) 0 0) 0 []) := World.ownsRow_lit (base := w2.heap.size) (e := 5) (size := 1) w2 #[] 0 (Nat.le_refl _) (by simp [maxLen]) rfl
    have HRa : Hid (Rd w2 w.heap.size A (bys l)) := (HR.out.below HB1.out).bl HB1.out.size HB2.out
    have hws : w.heap.size ≤ w2.heap.size := Nat.le_trans HB1.out.size hs2
    go_wp2_with (first
      | (at_builtin
         refine wpList_append_rd _ rfl (.tmp 30) (.tmp 31) 23 rfl w2.heap.size 5 i0 (.int .u8 0) 1 Try.underlying23 hi hz0 hz1 hz2 rfl _ _ _ rfl own0.out w2.heap.size A2 n2 c2 (bys (Vy.enc n)) rfl ((Rd.own HO2.out).alloc (Nat.le_refl _) _) (by rw [bys_len]; exact HN2.out.symm) (bys_one _) (by simp only [maxLen]; omega) (by omega) (by simp) ?_
         intro v3 w3 hown3 hg3 _
         have HO3 := Lib.hid hown3
         have HG3 := Lib.hid hg3
         have HR3 := Lib.hid ((HRa.out.alloc hws _).grown hg3 (Nat.le_trans hws (by simp)) (fun g h => by injection h with h; rw [← h]; exact hws))
         have hs3 : w2.heap.size ≤ w3.heap.size := Nat.le_trans (by simp) hg3.size
         clear hown3 hg3)
      | (at_builtin
         refine wpList_append_rd _ rfl (.tmp 32) (.tmp 33) 23 rfl w2.heap.size 5 i0 (.int .u8 0) 1 Try.underlying23 hi hz0 hz1 hz2 rfl _ _ _ rfl HO3.out w.heap.size A len cap (bys l) rfl HR3.out (by rw [bys_len]; exact HL.out.symm) (bys_one _) (by simp only [maxLen]; omega) (by omega) hs3 ?_
         intro v4 w4 hown4 hg4 _
         obtain ⟨A4, c4, rfl, hc4⟩ := own_slice hown4
         have HO4 := Lib.hid hown4
         have HG4 := Lib.hid hg4
         clear hown4 hg4)
      | fail)
    have HK3 : Hid (Rd w4 w2.heap.size A2 (bys (Vy.enc n))) := (((Rd.own HO2.out).alloc (Nat.le_refl _) _).grown HG3.out (by simp) (fun g h => by injection h with h; rw [← h]; exact Nat.le_refl _)).grown HG4.out hs3 (fun g h => (HO3.out.lt g h).1)
    have HB4 : Hid (Bl w w4) := ((((Bl.own HB1.out).trans HB2.out).alloc _).grown HG3.out (fun g h => by injection h with h; rw [← h]; exact hws)).grown HG4.out (fun g h => Nat.le_trans hws (HO3.out.lt g h).1)
    refine (take_any A4 (n2 + len) c4 (Vy.enc n ++ l) _ w4.heap.size ?_ (by omega) ?_ ?_).mono ?_
    · rw [List.length_append, ← HN2.out, ← HL.out]
    · have h := Rd.own HO4.out
      rw [bys_append]; simpa using h
    · intro c hc
      rcases List.mem_append.1 hc with h | h
      · exact Vy.enc_byte n hn c h
      · exact HB.out c h
    rintro e w' ⟨rfl, rfl⟩
    rw [Vy.dec_enc n hn l, ← HN2.out]
    have hn21 : ((n2 : Int) - 1).toNat = n2 - 1 := by omega
    go_wp2_with fail
    refine (take_any A2 (n2 - 1) c2 ((Vy.enc n).dropLast) _ w2.heap.size ?_ (by omega) ?_ ?_).mono ?_
    · rw [List.length_dropLast, ← HN2.out]
    · rw [List.dropLast_eq_take, bys_take]; exact HK3.out.take _
    · intro c hc; rw [List.dropLast_eq_take] at hc; exact Vy.enc_byte n hn c (List.mem_of_mem_take hc)
    rintro e w' ⟨rfl, rfl⟩
    rw [Vy.dec_cut]
    go_wp2_with fail
    refine (put_any m _ hm).mono ?_
    rintro e w5 ⟨A5, n5, c5, rfl, hn5, hc5, hown5, hb5⟩
    have hel := Vy.enc_len m
    have n5b : n5 ≤ 10 := by omega
    have HN5 := Lib.hid hn5
    have HO5 := Lib.hid hown5
    have HB5 := Lib.hid hb5
    clear hn5 hown5 hb5 hel
    go_wp2_with fail
    have hs4 : w2.heap.size ≤ w4.heap.size := Nat.le_trans hs3 HG4.out.size
    refine (same_any A2 A5 n2 n5 c2 c5 (Vy.enc n) (Vy.enc m) _ w5.heap.size HN2.out HN5.out (by omega) ((HK3.out.bl hs4 HB5.out).more (Nat.le_trans hs4 HB5.out.size)) (Rd.own HO5.out)).mono ?_
    rintro e w' ⟨rfl, q, rfl⟩
    by_cases hnm : n = m
    · have h1 : ((n : Int) == (m : Int)) = true := by simp [hnm]
      rw [decide_eq_true ((Vy.enc_inj n m hn hm).2 hnm)]
      have HM := Lib.hid hnm; clear hnm
      go_wp2_with fail
      go_ret
      exact ⟨rfl, (HB4.out.trans HB5.out).drewN q⟩
    · have h1 : ((n : Int) == (m : Int)) = false := by simp; omega
      rw [decide_eq_false (fun h => hnm ((Vy.enc_inj n m hn hm).1 h))]
      go_wp2_with fail
      go_ret
      exact ⟨rfl, (HB4.out.trans HB5.out).drewN q⟩
end Go.Proofs.Ytldeickeicfbkaa
