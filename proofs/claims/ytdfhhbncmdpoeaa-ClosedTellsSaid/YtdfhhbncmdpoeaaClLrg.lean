/- The closed laws' large: are sets more than are looked at? -/
import Derived.Test.YtdfhhbncmdpoeaaClKeep
namespace Go.Proofs.Ytdfhhbncmdpoeaa
open Go.RowKit

def lgS (L : List (List Ix)) : Bool := decide (30 < L.length) || L.any fun l => decide (200 < l.length)
theorem lgS_no {L : List (List Ix)} (h : lgS L = false) : L.length ≤ 30 ∧ ∀ l ∈ L, l.length ≤ 200 := by
  unfold lgS at h
  rw [Bool.or_eq_false_iff, decide_eq_false_iff_not, List.any_eq_false] at h
  refine ⟨by omega, fun l hl => ?_⟩
  have h2 := h.2 l hl
  rw [decide_eq_true_eq] at h2
  omega
set_option maxRecDepth 100000 in
set_option maxHeartbeats 2000000 in
theorem large19_any (As : Option Addr) (ls cs : Nat) (L : List (List Ix)) (w : World) (B : Nat) (hls : ls = L.length) (hmax : ls ≤ 9223372036854775807) (hs : SetsX w B As L) (hB : B ≤ w.heap.size) :
    Calls Try.prog 7 #[.slice As ls cs] w fun e w' => e = .returned (.bool (lgS L)) ∧ Bl w w' := by
  have HL := Lib.hid hls
  have HS := Lib.hid hs
  clear hls hs
  by_cases h30 : 30 < ls
  · have d1 : decide ((30 : Int) < (ls : Int)) = true := decide_eq_true (by omega)
    have HX : Hid (lgS L = true) := by
      have h := HL.out
      show lgS L = true
      unfold lgS
      rw [decide_eq_true (by omega)]; rfl
    clear h30
    go_enter Try.func7, Try.ntmps7
    go_wp2_with fail
    go_ret
    exact ⟨by rw [HX.out]; rfl, Bl.refl _⟩
  · have d1 : decide ((30 : Int) < (ls : Int)) = false := decide_eq_false (by omega)
    have HS3 := Lib.hid h30
    clear h30
    go_enter Try.func7, Try.ntmps7
    go_wp2_with fail
    clear d1
    go_loopw [10] (fun i wr => ∃ k : Nat, k ≤ ls ∧ i = .int .i64 (k : Int) ∧ Hid (Bl w wr) ∧ Hid (∀ l ∈ L.take k, l.length ≤ 200)) (fun i _ => ls - (intOf i).toNat)
    case atStart => exact ⟨0, Nat.zero_le _, rfl, Bl.refl _, fun l hl => by simp at hl⟩
    case round =>
      obtain ⟨k, hk, rfl, HBr, HT⟩ := hrel
      by_cases hlt : k < ls
      · have hj : k < L.length := by have := HL.out; omega
        obtain ⟨b, off, Ai, ci, rfl, hb, hc, _⟩ := (HS.out.bl hB HBr.out).at_ hj
        have hbl : b < wr.heap.size := Nat.lt_of_lt_of_le hb (Nat.le_trans hB HBr.out.size)
        have HM : Hid (L[k] ∈ L) := List.getElem_mem hj
        have HTk : Hid (L.take (k + 1) = L.take k ++ [L[k]]) := take_snoc hj
        generalize L[k] = l at *
        clear hj
        generalize hll : l.length = m at *
        have HLm := Lib.hid hll
        clear hll
        have j0 : (0 : Int) ≤ (k : Int) := by omega
        have j1 : (k : Int) < (ls : Int) := by omega
        by_cases hm : 200 < m
        · have d2 : decide ((200 : Int) < (m : Int)) = true := decide_eq_true (by omega)
          have HX : Hid (lgS L = true) := by
            have h := HLm.out
            show lgS L = true
            unfold lgS
            rw [Bool.or_eq_true, List.any_eq_true]
            exact .inr ⟨l, HM.out, decide_eq_true (by omega)⟩
          clear hm
          go_wp2_with fail
          go_ret
          exact ⟨by rw [HX.out]; rfl, HBr.out⟩
        · have d2 : decide ((200 : Int) < (m : Int)) = false := decide_eq_false (by omega)
          have HX : Hid (∀ l ∈ L.take (k + 1), l.length ≤ 200) := fun l2 h2 => by
            rw [HTk.out, List.mem_append, List.mem_singleton] at h2
            rcases h2 with h2 | rfl
            · exact HT.out l2 h2
            · have := HLm.out; omega
          clear hm
          go_wp2_with fail
          go_roundw
          case rel => exact ⟨k + 1, by omega, by go_num, HBr.out, HX.out⟩
          case measure => simp [intOf]; omega
      · go_wp2_with fail
        go_ret
        have HX : Hid (lgS L = false) := by
          have h := HT.out
          have h2 := HL.out
          have h3 := HS3.out
          rw [List.take_of_length_le (by omega)] at h
          show lgS L = false
          unfold lgS
          rw [Bool.or_eq_false_iff, decide_eq_false_iff_not, List.any_eq_false]
          refine ⟨by omega, fun l hl => ?_⟩
          have := h l hl
          rw [decide_eq_true_eq]
          omega
        exact ⟨by rw [HX.out]; rfl, HBr.out⟩
end Go.Proofs.Ytdfhhbncmdpoeaa
