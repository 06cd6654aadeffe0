/- The reference's Take: it tells what Take tells. -/
import Derived.Test.YtmegpmkjhbihaaaRows
import Derived.Test.YtmegpmkjhbihaaaVMath
import Derived.Test.YtmegpmkjhbihaaaVMem
namespace Go.Proofs.Ytmegpmkjhbihaaa
open Go.RowKit

theorem ge_snoc {l : List Nat} {k : Nat} (hj : k < l.length) (h : ∀ c ∈ l.take k, 128 ≤ c) (hc : 128 ≤ l[k]) : ∀ c ∈ l.take (k + 1), 128 ≤ c := by
  intro c hm
  rw [List.take_succ_eq_append_getElem hj] at hm
  rcases List.mem_append.1 hm with h1 | h1
  · exact h c h1
  · simp at h1; omega

set_option maxRecDepth 100000 in
set_option maxHeartbeats 1000000 in
theorem rtake_any (A : Option Addr) (len cap : Nat) (l : List Nat) (w : World) (B : Nat) (hl : len = l.length) (hmax : len ≤ 9223372036854775807)
    (hr : Rd w B A (bys l)) (hb : ∀ c ∈ l, c < 256) :
    Calls Try.prog 45 #[.slice A len cap] w fun e w' =>
      e = .returned (.tuple #[.int .u64 (Vy.dec l).1, .int .i64 (Vy.dec l).2.1, .int .i64 (Vy.dec l).2.2]) ∧ w = w' := by
  have HL := Lib.hid hl; clear hl
  have HR := Lib.hid hr; clear hr
  have HB := Lib.hid hb; clear hb
  go_enter Try.func45, Try.ntmps45
  go_wp2
  go_loop [5] (fun i => ∃ k : Nat, k ≤ len ∧ i = .int .i64 k ∧ Hid (∀ c ∈ l.take k, 128 ≤ c)) (fun i => len - (intOf i).toNat)
  case atStart => exact ⟨0, by omega, rfl, by simp [Hid]⟩
  case round =>
    obtain ⟨k, hk, rfl, HG⟩ := hrel
    by_cases hlt : k < len
    · have hj : k < l.length := by have := HL.out; omega
      obtain ⟨b, off, hA, _, hcell⟩ := HR.out.byte hj
      have hc := HB.out _ (List.getElem_mem hj)
      by_cases hc1 : 128 ≤ l[k]
      · have HS := Lib.hid (ge_snoc hj HG.out hc1)
        subst hA
        generalize l[k] = c at hcell hc hc1
        clear hj
        go_wp2
        go_round
        case rel => exact ⟨k + 1, by omega, by go_num, HS.out⟩
        case measure => simp [intOf]; omega
      · have hc2 : l[k] < 128 := by omega
        subst hA
        clear hc1
        by_cases h10 : 10 ≤ k
        · have HV := Lib.hid (Vy.dec_long HB.out HG.out h10 (by omega))
          generalize l[k] = c at hcell hc hc2
          clear hj
          go_wp2
          go_ret3
          exact ⟨by rw [HV.out]; rfl, rfl⟩
        · have HF := Lib.hid (Vy.dec_fin HB.out HG.out (by omega) hj hc2)
          have hkl : ((k : Int) == (len : Int)) = false := by simp; omega
          by_cases h91 : k = 9 ∧ 1 < l[k]
          · have HV : Hid (Vy.dec l = (0, 0, 4)) := by rw [HF.out]; unfold Vy.fin; rw [if_pos h91]; exact rfl
            have c1 : 1 < l[k] := h91.2
            obtain rfl : k = 9 := h91.1
            clear h91 HF
            generalize l[9] = c at hcell hc hc2 c1
            clear hj
            go_wp2
            go_ret3
            exact ⟨by rw [HV.out]; rfl, rfl⟩
          · by_cases h00 : 0 < k ∧ l[k] = 0
            · have HV : Hid (Vy.dec l = (0, 0, 2)) := by rw [HF.out]; unfold Vy.fin; rw [if_neg h91, if_pos h00]; exact rfl
              have c0 : ((l[k] : Int) == 0) = true := by simp; omega
              have k0 : 0 < k := h00.1
              have c1 : l[k] ≤ 1 := by omega
              clear h00 h91 HF
              by_cases h9 : k = 9
              · subst h9
                generalize l[9] = c at hcell hc hc2 c0 c1
                clear hj
                go_wp2
                go_ret3
                exact ⟨by rw [HV.out]; rfl, rfl⟩
              · have k9 : ((k : Int) == 9) = false := by simp; omega
                generalize l[k] = c at hcell hc hc2 c0 c1
                clear hj
                go_wp2
                go_ret3
                exact ⟨by rw [HV.out]; rfl, rfl⟩
            · have HV : Hid (Vy.dec l = (Vy.dval (l.take (k + 1)), k + 1, 0)) := by
                rw [HF.out, Vy.dval_last hj hc2]; unfold Vy.fin; rw [if_neg h91, if_neg h00]; exact rfl
              have HW := Lib.hid (Vy.dval_small (by omega) hj hc2 (fun h => by omega))
              clear HF
              have hcase : (((k : Int) == 9) = true ∧ w.cell? ⟨b, off + 9, none⟩ = some (.int .u8 (l[k] : Int)) ∧ l[k] ≤ 1 ∧ 0 < k ∧ ((l[k] : Int) == 0) = false ∧ 9 < len) ∨
                  (((k : Int) == 9) = false ∧ 0 < k ∧ ((l[k] : Int) == 0) = false) ∨ (((k : Int) == 9) = false ∧ ¬ 0 < k) := by
                by_cases h9 : k = 9
                · refine .inl ⟨by simp; omega, by rw [← h9]; exact hcell, by omega, by omega, by simp; omega, by omega⟩
                · by_cases k0 : 0 < k
                  · exact .inr (.inl ⟨by simp; omega, k0, by simp; omega⟩)
                  · exact .inr (.inr ⟨by simp; omega, k0⟩)
              have HJ := Lib.hid hj
              have h10' : k ≤ 9 := by omega
              clear h91 h00 h10
              generalize l[k] = c at hcell hc hc2 hcase
              clear hj
              rcases hcase with ⟨k9, cell9, c1, k0, c0, l9⟩ | ⟨k9, k0, c0⟩ | ⟨k9, k0⟩
              all_goals
                go_wp2
                go_loop [6, 7] (fun x i => ∃ j : Nat, j ≤ k + 1 ∧ i = .int .i64 ((j : Int) - 1) ∧ x = .int .u64 (Vy.dval ((l.take (k + 1)).drop j))) (fun _ i => (intOf i + 1).toNat)
                case atStart => exact ⟨k + 1, by omega, by go_num, by rw [List.drop_of_length_le (by simp; omega)]; rfl⟩
                case round =>
                  obtain ⟨j, hjk, rfl, rfl⟩ := hrel
                  cases j with
                  | zero =>
                    go_wp2
                    go_ret3
                    exact ⟨by rw [HV.out]; go_num, rfl⟩
                  | succ i =>
                    rw [show ((i + 1 : Nat) : Int) - 1 = (i : Int) by omega]
                    have hil : i < l.length := by have := HJ.out; omega
                    have hce := HR.out.byte_at hil
                    have hc256 := HB.out _ (List.getElem_mem hil)
                    have hst := Vy.dval_step i (by omega) HJ.out
                    have hle := Vy.dval_drop (l.take (k + 1)) i
                    have hw := HW.out
                    generalize l[i] = d at hce hc256 hst
                    have hbd : 128 * Vy.dval (List.drop (i + 1) (l.take (k + 1))) + d % 128 < 18446744073709551616 := by omega
                    have HS := Lib.hid hst
                    clear hst hle hw hil
                    have hi : i < len := by omega
                    generalize Vy.dval (List.drop (i + 1) (l.take (k + 1))) = N at hbd HS
                    go_wp2
                    go_round
                    case rel => exact ⟨i, by omega, by go_num, by rw [HS.out]; go_num⟩
                    case measure => simp [intOf]
    · have hv : Hid (Vy.dec l = if 10 ≤ k then (0, 0, 4) else (0, 0, 3)) := by
        have := HL.out
        split
        · exact Vy.dec_long HB.out HG.out (by omega) (by omega)
        · exact Vy.dec_short HB.out HG.out (by omega) (by omega)
      have hkl : ((k : Int) == (len : Int)) = true := by simp; omega
      by_cases h10 : 10 ≤ k
      · go_wp2
        go_ret3
        exact ⟨by rw [hv.out, if_pos h10]; rfl, rfl⟩
      · go_wp2
        go_ret3
        exact ⟨by rw [hv.out, if_neg h10]; rfl, rfl⟩
end Go.Proofs.Ytmegpmkjhbihaaa
