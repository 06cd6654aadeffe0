/- slices.Equal of ints. -/
import Derived.Test.YtdfhhbncmdpoeaaGRS
namespace Go.Proofs.Ytdfhhbncmdpoeaa
open Go.RowKit

set_option maxRecDepth 100000 in
set_option maxHeartbeats 400000 in
theorem iequal_any (A A' : Option Addr) (len len' cap cap' : Nat) (l r : List Int) (w : World) (B : Nat) (hl : len = l.length) (hl' : len' = r.length) (hmax' : len' ≤ 9223372036854775807)
    (hr : Rd w B A (ins l)) (hr' : Rd w B A' (ins r)) :
    Calls Try.prog 23 #[.slice A len cap, .slice A' len' cap'] w (Quiet (.bool (decide (l = r))) w) := by
  have HL := Lib.hid hl; clear hl
  have HL' := Lib.hid hl'; clear hl'
  have HR := Lib.hid hr; clear hr
  have HR' := Lib.hid hr'; clear hr'
  by_cases hne : len = len'
  · have hmax : len ≤ 9223372036854775807 := by omega
    have hq : ((len : Int) != (len' : Int)) = false := by simp; omega
    have HN := Lib.hid hne; clear hne
    go_enter Try.func23, Try.ntmps23
    go_wp2
    go_loopw [13] (fun i wr => ∃ (k q : Nat), k ≤ len ∧ i = .int .i64 k ∧ wr = w.drewN q ∧ Hid (l.take k = r.take k)) (fun i _ => len - (intOf i).toNat)
    case atStart => exact ⟨0, 0, by omega, rfl, rfl, by simp [Hid]⟩
    case round =>
      obtain ⟨k, q, hk, rfl, rfl, HT⟩ := hrel
      by_cases hlt : k < len
      · have hj : k < l.length := by have := HL.out; omega
        have hj' : k < r.length := by have := HL'.out; have := HN.out; omega
        obtain ⟨b, off, rfl, _, hcell⟩ := HR.out.int hj
        obtain ⟨b', off', rfl, _, hcell'⟩ := HR'.out.int hj'
        have hlt' : k < len' := by have := HN.out; omega
        have HS := Lib.hid (itake_succ_eq hj hj' HT.out)
        have HD := Lib.hid (fun (h : l = r) => (by subst h; rfl : l[k] = r[k]))
        generalize l[k] = c at hcell HS HD
        generalize r[k] = c' at hcell' HS HD
        clear hj hj'
        by_cases hcc : c = c'
        · have hq2 : (c != c') = false := by simp [hcc]
          have HC := Lib.hid hcc; clear hcc
          go_wp2
          go_quiet (fail)
          go_wp2
          go_roundw
          case rel => exact ⟨k + 1, _, by omega, by go_num, rfl, HS.out HC.out⟩
          case measure => simp [intOf]; omega
        · have hq2 : (c != c') = true := by simpa using hcc
          have hf : decide (l = r) = false := by simp; intro h; exact hcc (HD.out h)
          have HF := Lib.hid hf; clear hf
          go_wp2
          go_quiet (fail)
          go_wp2
          go_ret
          exact ⟨by rw [HF.out]; rfl, _, World.drewN_drewN _ _ _⟩
      · go_wp2
        go_ret
        have e : l = r := by
          have h1 := HT.out; have h2 := HL.out; have h3 := HL'.out; have h4 := HN.out
          rw [List.take_of_length_le (by omega), List.take_of_length_le (by omega)] at h1
          exact h1
        exact ⟨by rw [decide_eq_true e]; rfl, _, rfl⟩
  · have hq : ((len : Int) != (len' : Int)) = true := by simp; omega
    have hf : decide (l = r) = false := by simp; rintro rfl; have := HL.out; have := HL'.out; omega
    have HF := Lib.hid hf; clear hf
    go_enter Try.func23, Try.ntmps23
    go_wp2
    go_ret
    exact ⟨by rw [HF.out]; rfl, 0, rfl⟩
end Go.Proofs.Ytdfhhbncmdpoeaa
