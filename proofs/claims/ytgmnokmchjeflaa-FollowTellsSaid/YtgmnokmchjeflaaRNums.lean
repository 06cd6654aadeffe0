/- probateref11.Numbers: the numbers of sets. -/
import Derived.Test.YtgmnokmchjeflaaRFirst
import Derived.Test.YtgmnokmchjeflaaFFirst
namespace Go.Proofs.Ytgmnokmchjeflaa
open Go.RowKit

/-- The numbers of these sets. -/
def numsOf (N : Nat) (F : Nat → Nat → Bool) : List Nat := (List.range N).map fun n => Fi.numL ((List.range 32).map (F n))
theorem numsOf_len (N : Nat) (F : Nat → Nat → Bool) : (numsOf N F).length = N := by simp [numsOf]
theorem numsOf_succ (N : Nat) (F : Nat → Nat → Bool) : numsOf (N + 1) F = numsOf N F ++ [Fi.numL ((List.range 32).map (F N))] := by
  unfold numsOf
  rw [List.range_succ (n := N), List.map_append, List.map_cons, List.map_nil]
theorem numsOf_firsts (g : Gr.Gm) : numsOf (setsN g) (colF g) = firstsOf g := by
  cases h : okB g with
  | true => rw [setsN_ok h, firstsOf_ok h]; rfl
  | false => rw [setsN_no h, firstsOf_no h]; rfl
theorem Rd.set_range {w : World} {B : Nat} {A : Option Addr} {N : Nat} {F : Nat → Nat → Bool} (h : Rd w B A (setRow N F)) {n : Nat} (hn : n < N) :
    ∃ b off, A = some ⟨b, off, none⟩ ∧ b < B ∧ w.rangeAt b (off + n * 32) (bls 32 (F n)) := by
  obtain ⟨b, off, e, hb, hc⟩ := h.set_at hn
  refine ⟨b, off, e, hb, fun j v hv => ?_⟩
  have hj : j < 32 := by
    rcases Nat.lt_or_ge j 32 with h | h
    · exact h
    · rw [List.getElem?_eq_none (by rw [bls_len]; exact h)] at hv; cases hv
  rw [bls_at _ hj] at hv
  rw [hc j hj, hv]

set_option maxRecDepth 100000 in
set_option maxHeartbeats 2000000 in
theorem numbers_any (Af : Option Addr) (N cf : Nat) (F : Nat → Nat → Bool) (w : World) (B : Nat) (hN : N ≤ 1000000) (hr : Rd w B Af (setRow N F)) (hB : B ≤ w.heap.size) :
    Calls Try.prog 10 #[.slice Af N cf] w (UPost (numsOf N F) w) := by
  obtain ⟨i0, hi, hz0, hz1, hz2⟩ := info_parts u32_info
  have HR := Lib.hid hr; clear hr
  have H0 : Hid ((w.alloc (.cells #[] 33)).ownsRow w.heap.size 33 1 (.slice (some ⟨w.heap.size, 0, none⟩) 0 0) 0 (us (numsOf 0 F))) :=
    World.ownsRow_lit (base := w.heap.size) (e := 33) (size := 1) w #[] 0 (Nat.le_refl _) (by simp [maxLen]) rfl
  have HB0 : Hid (Bl w (w.alloc (.cells #[] 33))) := (Bl.refl w).alloc _
  go_enter Try.func10, Try.ntmps10
  go_wp2_with fail
  go_loopw [3, 4] (fun v i wr => ∃ k : Nat, k ≤ N ∧ i = .int .i64 k ∧ Hid (wr.ownsRow w.heap.size 33 1 v k (us (numsOf k F))) ∧ Hid (Bl w wr)) (fun _ i _ => N - (intOf i).toNat)
  case atStart => exact ⟨0, Nat.zero_le _, rfl, H0.out, HB0.out⟩
  case round =>
    obtain ⟨k, hk, rfl, HO, HB⟩ := hrel
    have hsz : w.heap.size ≤ wr.heap.size := HB.out.size
    by_cases hlt : k < N
    · obtain ⟨b, off, rfl, hb, hrg⟩ := (HR.out.bl hB HB.out).set_range hlt
      have HRg := Lib.hid hrg
      have hk0 : (0 : Int) ≤ (k : Int) := by omega
      have hk1 : (k : Int) < (N : Int) := by omega
      have HSuc := Lib.hid (numsOf_succ k F)
      clear hrg
      generalize F k = f at *
      go_wp2_with ((with_reducible refine wpList_load_mid ?hg 50 (.tmp 15) ?ho b (off + k * 32) ?hx (bls 32 f) (.array 32 4) HRg.out Try.underlying50 rfl ?hi ?_); (case ho => with_reducible rfl); (case hg => rfl); (case hx => rfl); (case hi => rw [bls_len]; exact set_size))
      refine (number_any _ f wr rfl).mono ?_
      rintro e w1 ⟨rfl, hb1⟩
      generalize Fi.numL ((List.range 32).map f) = x at *
      have HO1 := Lib.hid (own_bl HO.out hb1)
      have HOw := Lib.hid (HO1.out.alloc (.cells #[.int .u32 (x : Int)] 33))
      have HBw := Lib.hid (HB.out.trans hb1)
      have hsz1 : w.heap.size ≤ w1.heap.size := HBw.out.size
      clear hb1 HO HB hsz
      go_wp2_with (at_builtin; (refine wpList_append_own _ rfl (.tmp 12) (.tmp 18) 28 rfl w.heap.size 33 i0 (.int .u32 0) 1 4 Try.underlying28 hi hz0 hz1 hz2 rfl (by decide) _ _ _ rfl HOw.out ⟨w1.heap.size, 0, none⟩ 1 1 [.int .u32 (x : Int)] rfl rfl (one_new _ _ _) (by simp [Value.oneCell']) (by simp only [maxLen]; omega) (by omega) (by rw [World.size_alloc]; omega) ?_); intro v5 w5 hown5 hg5 _; (have HX : Hid (w5.ownsRow w.heap.size 33 1 v5 (k + 1) (us (numsOf (k + 1) F))) := by (rw [HSuc.out, us_append]; exact hown5)); (have HZ : Hid (Bl w w5) := (HBw.out.alloc _).grown hg5 (fun k hk => (HO1.out.lt k hk).1); clear hown5 hg5))
      go_roundw
      case rel => exact ⟨k + 1, by omega, by go_num, HX.out, HZ.out⟩
      case measure => simp [intOf]; omega
    · obtain ⟨Aw, cw, hv, _⟩ := own_form HO.out
      subst hv
      have hkN : k = N := by omega
      subst hkN
      go_wp2_with fail
      go_ret
      exact ⟨Aw, k, cw, rfl, (numsOf_len _ _).symm, Rd.own HO.out, HB.out⟩
end Go.Proofs.Ytgmnokmchjeflaa
