/- slices.Index and slices.Contains of ints. -/
import Derived.Test.YtmclegbobjkpjaaWMem
import Derived.Test.YtmclegbobjkpjaaRows
namespace Go.Proofs.Ytmclegbobjkpjaa
open Go.RowKit

theorem none_snoc {l : List Int} {x : Int} {k : Nat} (h : k < l.length) (ha : ¬ x ∈ l.take k) (hx : x ≠ l[k]) : ¬ x ∈ l.take (k + 1) := by
  rw [List.take_succ_eq_append_getElem h, List.mem_append]
  rintro (h1 | h1)
  · exact ha h1
  · simp at h1; exact hx h1

set_option maxRecDepth 100000 in
set_option maxHeartbeats 400000 in
theorem index_any (A : Option Addr) (len c : Nat) (l : List Int) (x : Int) (w : World) (B : Nat) (hlen : len = l.length) (hmax : len ≤ 9223372036854775807) (hr : Rd w B A (ins l)) :
    Calls Try.prog 30 #[.slice A len c, .int .i64 x] w fun e w' => ∃ r : Int, e = .returned (.int .i64 r) ∧ (0 ≤ r ↔ x ∈ l) ∧ w = w' := by
  have HL := Lib.hid hlen; clear hlen
  have HR := Lib.hid hr; clear hr
  go_enter Try.func30, Try.ntmps30
  go_wp2
  go_loop [8] (fun i => ∃ k : Nat, k ≤ len ∧ i = .int .i64 k ∧ Hid (¬ x ∈ l.take k)) (fun i => len - (intOf i).toNat)
  case atStart => exact ⟨0, by omega, rfl, by simp [Hid]⟩
  case round =>
    obtain ⟨k, hk, rfl, HN⟩ := hrel
    by_cases hlt : k < len
    · have hj : k < l.length := by have := HL.out; omega
      obtain ⟨b, off, rfl, _, hcell⟩ := HR.out.int hj
      by_cases hx : x = l[k]
      · have hq : (x == l[k]) = true := by simpa using hx
        have HY : Hid (x ∈ l) := by rw [hx]; exact List.getElem_mem hj
        generalize l[k] = y at hcell hq
        clear hj hx
        go_wp2
        go_ret
        exact ⟨k, rfl, ⟨fun _ => HY.out, fun _ => by omega⟩, rfl⟩
      · have hq : (x == l[k]) = false := by simpa using hx
        have HY := Lib.hid (none_snoc hj HN.out hx)
        generalize l[k] = y at hcell hq
        clear hj hx
        go_wp2
        go_round
        case rel => exact ⟨k + 1, by omega, by go_num, HY.out⟩
        case measure => simp [intOf]; omega
    · go_wp2
      go_ret
      refine ⟨-1, rfl, ?_, rfl⟩
      have h := HN.out
      rw [List.take_of_length_le (by have := HL.out; omega)] at h
      exact ⟨fun e => absurd e (by decide), fun e => absurd e h⟩
set_option maxHeartbeats 400000 in
theorem contains_any (A : Option Addr) (len c : Nat) (l : List Int) (x : Int) (w : World) (B : Nat) (hlen : len = l.length) (hmax : len ≤ 9223372036854775807) (hr : Rd w B A (ins l)) :
    Calls Try.prog 27 #[.slice A len c, .int .i64 x] w fun e w' => e = .returned (.bool (decide (x ∈ l))) ∧ w = w' := by
  have HL := Lib.hid hlen; clear hlen
  have HR := Lib.hid hr; clear hr
  go_enter Try.func27, Try.ntmps27
  go_wp2_with fail
  refine (index_any A len c l x w B HL.out hmax HR.out).mono ?_
  rintro e w' ⟨r, rfl, hd, rfl⟩
  have HD := Lib.hid hd; clear hd
  go_wp2_with fail
  go_ret
  exact ⟨by rw [decide_eq_decide.2 HD.out.symm]; rfl, rfl⟩
end Go.Proofs.Ytmclegbobjkpjaa
