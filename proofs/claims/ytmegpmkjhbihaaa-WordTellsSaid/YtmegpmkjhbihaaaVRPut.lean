/- The reference's Put: it tells the same bytes. -/
import Derived.Test.YtmegpmkjhbihaaaVPut
namespace Go.Proofs.Ytmegpmkjhbihaaa
open Go.RowKit

theorem makes_one {n : Nat} {w : World} (l : List Nat) (hl : l = [n]) : Makes l w (.returned (.slice (some ⟨w.heap.size, 0, none⟩) 1 1)) (w.alloc (.cells #[.int .u8 (n : Int)] 5)) := by
  subst hl
  exact ⟨_, _, _, rfl, rfl, Nat.le_refl _, World.ownsRow_lit (base := w.heap.size) (e := 5) (size := 1) w #[.int .u8 (n : Int)] 1 (Nat.le_refl _) (by simp [maxLen]) rfl, Bl.alloc (Bl.refl w) _⟩

set_option maxRecDepth 100000 in
set_option maxHeartbeats 400000 in
theorem rput_any (f : Nat) : ∀ (n : Nat) (w : World), n < 128 ^ (f + 1) → f ≤ 9 → n < 18446744073709551616 → Calls Try.prog 34 #[.int .u64 n] w (Makes (Vy.put f n) w) := by
  obtain ⟨i0, hi, hz0, hz1, hz2⟩ := info_parts byte_info
  induction f with
  | zero =>
    intro n w hn _ h64
    have h : n < 128 := by simpa using hn
    have HE := Lib.hid (makes_one (n := n) (w := w) (Vy.put 0 n) rfl)
    clear hn
    go_enter Try.func34, Try.ntmps34
    go_wp2_with fail
    go_ret
    exact HE.out
  | succ f ih =>
    intro n w hn hf h64
    have HI := Lib.hid ih
    clear ih
    by_cases h : n < 128
    · have HE := Lib.hid (makes_one (n := n) (w := w) (Vy.put (f + 1) n) (by simp [Vy.put, h]))
      have HN := Lib.hid hn
      clear hn
      go_enter Try.func34, Try.ntmps34
      go_wp2_with fail
      go_ret
      exact HE.out
    · have e1 : Hid (Vy.put (f + 1) n = (n % 128 + 128) :: Vy.put f (n / 128)) := by
        unfold Hid; simp only [Vy.put]; rw [if_neg h]
      have hd : Hid (n / 128 < 128 ^ (f + 1)) := by
        unfold Hid
        rw [Nat.div_lt_iff_lt_mul (by decide)]
        rwa [Nat.pow_succ] at hn
      clear hn
      go_enter Try.func34, Try.ntmps34
      go_wp2_with fail
      rw [show ((n : Int) / 128) = ((n / 128 : Nat) : Int) by omega]
      refine (HI.out (n / 128) _ hd.out (by omega) (by omega)).mono ?_
      rintro e w1 ⟨A, n1, c1, rfl, hn1, hc1, hown1, hb1⟩
      have hl1 := Vy.put_len f (n / 128)
      have n1b : n1 ≤ 10 := by omega
      have HO : Hid (w1.ownsRow w.heap.size 5 1 (.slice (some ⟨w.heap.size, 0, none⟩) 1 1) 1 [.int .u8 ((n : Int) % 128 + 128)]) :=
        (World.ownsRow_lit (base := w.heap.size) (e := 5) (size := 1) w #[.int .u8 ((n : Int) % 128 + 128)] 1 (Nat.le_refl _) (by simp [maxLen]) rfl).kept (row := none) ⟨hb1.os, hb1.tape, hb1.output, hb1.size, fun k hk _ => hb1.block k hk⟩ (.inr (by simp [Value.ownBlock]))
      have HN1 := Lib.hid hn1
      have HO1 := Lib.hid hown1
      have HB1 : Hid (Bl w w1) := (Bl.alloc (Bl.refl w) _).trans hb1
      have hs1 : w.heap.size ≤ w1.heap.size := HB1.out.size
      clear hn1 hown1 hb1 hl1
      go_wp2_with (at_builtin; refine wpList_append_rd _ rfl (.tmp 12) (.tmp 15) 26 rfl w.heap.size 5 i0 (.int .u8 0) 1 Try.underlying26 hi hz0 hz1 hz2 rfl _ _ _ rfl HO.out w1.heap.size A n1 c1 (bys (Vy.put f (n / 128))) rfl (Rd.own HO1.out) (by rw [bys_len]; exact HN1.out.symm) (bys_one _) (by simp only [maxLen]; omega) (by omega) hs1 ?_; intro v2 w2 hown2 hg2 _; obtain ⟨A2, c2, rfl, hc2⟩ := own_slice hown2; have HO2 := Lib.hid hown2; have HG2 := Lib.hid hg2; clear hown2 hg2)
      go_ret
      refine ⟨A2, 1 + n1, c2, rfl, ?_, hc2, ?_, HB1.out.grown HG2.out (fun k h => by injection h with h; rw [← h]; exact Nat.le_refl _)⟩
      · rw [e1.out, List.length_cons, ← HN1.out]; omega
      · rw [e1.out, bys_cons]
        have h := HO2.out
        rw [show ((n : Int) % 128 + 128) = ((n % 128 + 128 : Nat) : Int) by omega] at h
        simpa using h
end Go.Proofs.Ytmegpmkjhbihaaa
