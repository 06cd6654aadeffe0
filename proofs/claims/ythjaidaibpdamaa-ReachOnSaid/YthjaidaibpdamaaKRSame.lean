/- The reference's Same of facts: are facts the same? -/
import Derived.Test.YthjaidaibpdamaaKMem
import Derived.RegionTactic
import Derived.Deep.QuietTactic
import Derived.BigQuiet
import Derived.Laws.StructEq
namespace Go.Proofs.Ythjaidaibpdamaa
open Go.RowKit

theorem ftake_succ {l r : List Fc} {k : Nat} (h1 : k < l.length) (h2 : k < r.length) (h : l.take k = r.take k) (hc : l[k] = r[k]) : l.take (k + 1) = r.take (k + 1) := by
  rw [List.take_succ_eq_append_getElem h1, List.take_succ_eq_append_getElem h2, h, hc]

set_option maxRecDepth 100000 in
set_option maxHeartbeats 1000000 in
theorem fsame_any (A A' : Option Addr) (len len' cap cap' : Nat) (l r : List Fc) (w : World) (B : Nat) (hl : len = l.length) (hl' : len' = r.length) (hmax : len ≤ 9223372036854775807)
    (hr : Rd w B A (fcRow l)) (hr' : Rd w B A' (fcRow r)) :
    Calls Try.prog 8 #[.slice A len cap, .slice A' len' cap'] w fun e w' => e = .returned (.bool (decide (l = r))) ∧ Bl w w' := by
  have HL := Lib.hid hl; clear hl
  have HL' := Lib.hid hl'; clear hl'
  have HR := Lib.hid hr; clear hr
  have HR' := Lib.hid hr'; clear hr'
  by_cases hne : len = len'
  · have hq : ((len : Int) != (len' : Int)) = false := by simp; omega
    have HN := Lib.hid hne; clear hne
    go_enter Try.func8, Try.ntmps8
    go_wp2
    go_loopw [5] (fun i wr => ∃ (k q : Nat), k ≤ len ∧ i = .int .i64 k ∧ wr = w.drewN q ∧ Hid (l.take k = r.take k)) (fun i _ => len - (intOf i).toNat)
    case atStart => exact ⟨0, 0, by omega, rfl, rfl, by simp [Hid]⟩
    case round =>
      obtain ⟨k, q, hk, rfl, rfl, HT⟩ := hrel
      by_cases hlt : k < len
      · have hj : k < l.length := by have := HL.out; omega
        have hj' : k < r.length := by have := HL'.out; have := HN.out; omega
        obtain ⟨b, off, rfl, _, hc0, hc1⟩ := HR.out.fact hj
        obtain ⟨b', off', rfl, _, hc0', hc1'⟩ := HR'.out.fact hj'
        have hlt' : k < len' := by have := HN.out; omega
        have hk0 : (0 : Int) ≤ (k : Int) := by omega
        have hk1 : (k : Int) < (len : Int) := by omega
        have hk2 : (k : Int) < (len' : Int) := by omega
        have HS := Lib.hid (ftake_succ hj hj' HT.out)
        have HD := Lib.hid (fun (h : l = r) => (by subst h; rfl : l[k] = r[k]))
        generalize l[k] = c at hc0 hc1 HS HD
        generalize r[k] = c' at hc0' hc1' HS HD
        obtain ⟨cr, cp⟩ := c
        obtain ⟨cr', cp'⟩ := c'
        simp only at hc0 hc1 hc0' hc1'
        clear hj hj'
        by_cases hcc : cr = cr'
        · subst hcc
          by_cases hcd : cp = cp'
          · subst hcd
            have HT2 := Lib.hid (HS.out rfl)
            go_wp2
            go_quiet (fail)
            go_wp2
            go_roundw
            case rel => exact ⟨k + 1, _, by omega, by go_num, rfl, HT2.out⟩
            case measure => simp [intOf]; omega
          · have hn : (cp == cp') = false := by simpa using hcd
            have HF : Hid (decide (l = r) = false) := decide_eq_false (fun e => by have := HD.out e; injection this with _ e2; exact hcd e2)
            clear hcd
            go_wp2
            go_quiet (fail)
            go_wp2
            go_ret
            exact ⟨by rw [HF.out]; rfl, by first | exact ((Bl.refl w).drewN _).drewN _ | exact ((Bl.refl w).drewN _).drew⟩
        · have hn : (cr == cr') = false := by simpa using hcc
          have HF : Hid (decide (l = r) = false) := decide_eq_false (fun e => by have := HD.out e; injection this with e1 _; exact hcc e1)
          clear hcc
          go_wp2
          go_quiet (fail)
          go_wp2
          go_ret
          exact ⟨by rw [HF.out]; rfl, by first | exact ((Bl.refl w).drewN _).drewN _ | exact ((Bl.refl w).drewN _).drew⟩
      · go_wp2
        go_ret
        have e : l = r := by
          have h1 := HT.out; have h2 := HL.out; have h3 := HL'.out; have h4 := HN.out
          rw [List.take_of_length_le (by omega), List.take_of_length_le (by omega)] at h1
          exact h1
        exact ⟨by rw [decide_eq_true e]; rfl, (Bl.refl w).drewN _⟩
  · have hq : ((len : Int) != (len' : Int)) = true := by simp; omega
    have hf : decide (l = r) = false := by simp; rintro rfl; have := HL.out; have := HL'.out; omega
    have HF := Lib.hid hf; clear hf
    go_enter Try.func8, Try.ntmps8
    go_wp2
    go_ret
    exact ⟨by rw [HF.out]; rfl, Bl.refl w⟩
end Go.Proofs.Ythjaidaibpdamaa
