/- sound.faults' closures: what each tells of a nonterminal. -/
import Derived.Test.YthhgjdnbeeadhaaSdRec
import Derived.Test.YthhgjdnbeeadhaaSdMath
import Derived.Test.YthhgjdnbeeadhaaKPost
namespace Go.Proofs.Ythhgjdnbeeadhaa
open Go.RowKit

theorem Rd.fact_rank {w : World} {B : Nat} {A : Option Addr} {F : Rk.Fs} (h : Rd w B A (fcRow (fz F))) {j : Nat} (hj : j < F.length) : ∃ b off, A = some ⟨b, off, none⟩ ∧ b < B ∧ w.cell? ⟨b, off + j * 2, none⟩ = some (.int .i64 (Rk.rk F j : Int)) := by
  have hl : j < (fz F).length := by rw [fz_len]; exact hj
  obtain ⟨b, off, e, hb, f0, _⟩ := h.fact hl
  rw [fz_rank] at f0
  exact ⟨b, off, e, hb, f0⟩

set_option maxRecDepth 100000 in
set_option maxHeartbeats 1000000 in
theorem dead_any (F : Rk.Fs) (A : Option Addr) (N c gl j : Nat) (w : World) (hk : Bk w gl 30 #[.slice A N c]) (hr : Rd w w.heap.size A (fcRow (fz F))) (hl : F.length = N) (hj : j < N) :
    Calls Try.prog 27 #[.int .i64 j, .pointer (some ⟨gl, 0, none⟩)] w fun e w' => e = .returned (.bool (decide (Rk.rk F j = 0))) ∧ Bl w w' := by
  obtain ⟨b, off, rfl, hb, f0⟩ := hr.fact_rank (j := j) (by omega)
  have k0 : w.cell? ⟨gl, 0, none⟩ = some (.slice (some ⟨b, off, none⟩) N c) := hk.cell 0
  have klt : gl < w.heap.size := hk.lt
  have hj0 : (0 : Int) ≤ (j : Int) := by omega
  have hj1 : (j : Int) < (N : Int) := by omega
  generalize Rk.rk F j = x at *
  clear hk hr hl hj
  by_cases hx : x = 0
  · subst hx
    go_enter Try.func27, Try.ntmps27
    go_wp2_with fail
    go_ret
    exact ⟨rfl, Bl.refl w⟩
  · have hq : (((x : Nat) : Int) == 0) = false := by simp; omega
    have hd := Lib.hid (decide_eq_false hx)
    clear hx
    go_enter Try.func27, Try.ntmps27
    go_wp2_with fail
    go_ret
    exact ⟨by rw [hd.out]; rfl, Bl.refl w⟩
set_option maxRecDepth 100000 in
set_option maxHeartbeats 1000000 in
theorem alone_any (F : Rk.Fs) (A : Option Addr) (N c gl j : Nat) (w : World) (hk : Bk w gl 30 #[.slice A N c]) (hr : Rd w w.heap.size A (fcRow (fz F))) (hl : F.length = N) (hj : j < N) :
    Calls Try.prog 28 #[.int .i64 j, .pointer (some ⟨gl, 0, none⟩)] w fun e w' => e = .returned (.bool (decide (Rk.rk F j = 0))) ∧ Bl w w' := by
  obtain ⟨b, off, rfl, hb, f0⟩ := hr.fact_rank (j := j) (by omega)
  have k0 : w.cell? ⟨gl, 0, none⟩ = some (.slice (some ⟨b, off, none⟩) N c) := hk.cell 0
  have klt : gl < w.heap.size := hk.lt
  have hj0 : (0 : Int) ≤ (j : Int) := by omega
  have hj1 : (j : Int) < (N : Int) := by omega
  generalize Rk.rk F j = x at *
  clear hk hr hl hj
  by_cases hx : x = 0
  · subst hx
    go_enter Try.func28, Try.ntmps28
    go_wp2_with fail
    go_ret
    exact ⟨rfl, Bl.refl w⟩
  · have hq : (((x : Nat) : Int) == 0) = false := by simp; omega
    have hd := Lib.hid (decide_eq_false hx)
    clear hx
    go_enter Try.func28, Try.ntmps28
    go_wp2_with fail
    go_ret
    exact ⟨by rw [hd.out]; rfl, Bl.refl w⟩
set_option maxRecDepth 100000 in
set_option maxHeartbeats 1000000 in
theorem left_any (g : Gr.Gm) (N z gl j : Nat) (w : World) (hk : Bk w gl 61 #[.int .u32 (z : Int)]) (hs : SetTo g z N) (hj : j < N) (hN : N ≤ 24) :
    Calls Try.prog 29 #[.int .i64 j, .pointer (some ⟨gl, 0, none⟩)] w fun e w' => e = .returned (.bool (Sd.leftB g j)) ∧ Bl w w' := by
  have k0 : w.cell? ⟨gl, 0, none⟩ = some (.int .u32 (z : Int)) := hk.cell 0
  have klt : gl < w.heap.size := hk.lt
  have hj0 : (0 : Int) ≤ (j : Int) := by omega
  have hj32 : j < 32 := by omega
  have hb := bit_test (z := z) j hs.1
  rw [hs.2.1 j hj] at hb
  clear hk hs hj hN
  cases hx : Sd.leftB g j with
  | true =>
    have hbt : bits .and .u32 ((z : Int) / 2 ^ j) 1 = 1 := by rw [hb, hx]; rfl
    clear hx hb
    go_enter Try.func29, Try.ntmps29
    go_wp2_with fail
    go_ret
    exact ⟨rfl, Bl.refl w⟩
  | false =>
    have hbt : bits .and .u32 ((z : Int) / 2 ^ j) 1 = 0 := by rw [hb, hx]; rfl
    clear hx hb
    go_enter Try.func29, Try.ntmps29
    go_wp2_with fail
    go_ret
    exact ⟨rfl, Bl.refl w⟩
end Go.Proofs.Ythhgjdnbeeadhaa
