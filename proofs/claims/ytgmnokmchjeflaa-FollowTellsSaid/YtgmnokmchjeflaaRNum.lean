/- probateref11.Number: the number of a set. -/
import Derived.Test.YtgmnokmchjeflaaFMem
import Derived.Test.YtgmnokmchjeflaaHTab
import Derived.Deep.MidRow
import Derived.Deep.WholeRow
import Derived.OwnWalk
namespace Go.Proofs.Ytgmnokmchjeflaa
open Go.RowKit

/-- A set, as a value. -/
def setV (f : Nat → Bool) : Value := .agg (bls 32 f).toArray

theorem numL_step (f : Nat → Bool) {j : Nat} (h : j < 32) : Fi.numL (((List.range 32).map f).drop j) = 2 * Fi.numL (((List.range 32).map f).drop (j + 1)) + (f j).toNat := by
  have hl : j < ((List.range 32).map f).length := by rw [List.length_map, List.length_range]; exact h
  rw [List.drop_eq_getElem_cons hl, Fi.numL_cons]
  simp
theorem numL_small (f : Nat → Bool) {j : Nat} (h : j < 32) : Fi.numL (((List.range 32).map f).drop (j + 1)) < 2147483648 := by
  have h1 := Fi.numL_lt (((List.range 32).map f).drop (j + 1))
  rw [List.length_drop, List.length_map, List.length_range] at h1
  exact Nat.lt_of_lt_of_le h1 (Nat.le_trans (Nat.pow_le_pow_right (by decide) (show 32 - (j + 1) ≤ 31 by omega)) (by decide))

set_option maxRecDepth 100000 in
set_option maxHeartbeats 1000000 in
theorem number_any (cs : Array Value) (f : Nat → Bool) (w : World) (hcs : cs = (bls 32 f).toArray) :
    Calls Try.prog 16 #[.agg cs] w fun e w' => e = .returned (.int .u32 (Fi.numL ((List.range 32).map f) : Int)) ∧ Bl w w' := by
  have HB : Hid (Bl w (w.alloc (.cells cs 50))) := (Bl.refl w).alloc _
  have HC : Hid (∀ j, j < 32 → (w.alloc (.cells cs 50)).cell? ⟨w.heap.size, j, none⟩ = some (.bool (f j))) := fun j hj => by
    have h := (Bk.new w 50 cs).cell j
    rw [h, hcs, List.getElem?_toArray, bls_at f hj]
  clear hcs
  go_enter Try.func16, Try.ntmps16
  go_wp2_with fail
  generalize hw0 : w.alloc (.cells cs 50) = w0 at HB HC ⊢
  have hsz : w.heap.size < w0.heap.size := by rw [← hw0]; simp
  have HW0 := Lib.hid hw0; clear hw0
  go_loop [3, 4] (fun v i => ∃ (k : Nat) (m : Int) (n : Nat), k ≤ 32 ∧ m = (k : Int) - 1 ∧ i = .int .i64 m ∧ v = .int .u32 (n : Int) ∧ Hid (n = Fi.numL (((List.range 32).map f).drop k))) (fun _ i => (intOf i + 1).toNat)
  case atStart => exact ⟨32, 31, 0, Nat.le_refl _, rfl, rfl, rfl, by
    show 0 = _
    rw [List.drop_of_length_le (by rw [List.length_map, List.length_range]; exact Nat.le_refl _)]; rfl⟩
  case round =>
    obtain ⟨k, m, n, hk, hm, rfl, rfl, HN⟩ := hrel
    cases k with
    | zero =>
      have hm1 : m = -1 := by omega
      subst hm1
      clear hm
      go_wp2_with fail
      go_ret
      exact ⟨by rw [HN.out]; rfl, HB.out⟩
    | succ j =>
      have hmj : m = (j : Int) := by omega
      subst hmj
      clear hm
      have hj : j < 32 := by omega
      have hc := HC.out j hj
      have hs := numL_step f hj
      have hn : n < 2147483648 := by rw [HN.out]; exact numL_small f hj
      rw [← HN.out] at hs
      have hj0 : (0 : Int) ≤ (j : Int) := by omega
      have hj1 : (j : Int) < 32 := by omega
      cases hb : f j with
      | true =>
        rw [hb] at hc hs
        have HS := Lib.hid hs
        clear hs hb
        go_wp2_with fail
        go_round
        case rel => exact ⟨j, (j : Int) - 1, 2 * n + 1, by omega, rfl, by go_num, by go_num, HS.out.symm⟩
        case measure => simp [intOf]
      | false =>
        rw [hb] at hc hs
        have HS := Lib.hid hs
        clear hs hb
        go_wp2_with fail
        go_round
        case rel => exact ⟨j, (j : Int) - 1, 2 * n, by omega, rfl, by go_num, by go_num, HS.out.symm⟩
        case measure => simp [intOf]
end Go.Proofs.Ytgmnokmchjeflaa
