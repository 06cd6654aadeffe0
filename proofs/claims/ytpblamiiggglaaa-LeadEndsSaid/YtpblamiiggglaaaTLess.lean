/- The reference's Less: which of two rows stands ahead. -/
import Derived.Test.YtpblamiiggglaaaPlainT
import Derived.Test.YtpblamiiggglaaaWMem
import Derived.Test.YtpblamiiggglaaaRows
import Derived.RegionTactic
import Derived.Deep.QuietTactic
import Derived.BigQuiet
namespace Go.Proofs.Ytpblamiiggglaaa
open Go.RowKit

namespace Dv
theorem less_step {a b : List Int} {k : Nat} (ha : k < a.length) (hb : k < b.length) : less (a.drop k) (b.drop k) = if a[k] = b[k] then less (a.drop (k + 1)) (b.drop (k + 1)) else decide (a[k] < b[k]) := by
  rw [List.drop_eq_getElem_cons ha, List.drop_eq_getElem_cons hb]
  rfl
theorem less_end {a b : List Int} {k : Nat} (h : a.length ≤ k ∨ b.length ≤ k) (ha : k ≤ a.length) (hb : k ≤ b.length) : less (a.drop k) (b.drop k) = decide (a.length < b.length) := by
  rcases h with h | h
  · rw [List.drop_eq_nil_of_le h]
    by_cases e : k < b.length
    · rw [List.drop_eq_getElem_cons e, decide_eq_true (by omega)]; rfl
    · rw [List.drop_eq_nil_of_le (by omega), decide_eq_false (by omega)]; rfl
  · rw [List.drop_eq_nil_of_le h, decide_eq_false (by omega)]
    cases a.drop k <;> rfl
end Dv

set_option maxRecDepth 100000 in
set_option maxHeartbeats 1000000 in
theorem tless_any (A B : Option Addr) (la lb ca cb : Nat) (a b : List Int) (w : World) (B0 : Nat) (hla : la = a.length) (hlb : lb = b.length) (hma : la ≤ 9223372036854775806) (hra : Rd w B0 A (ins a)) (hrb : Rd w B0 B (ins b)) :
    Calls Try.prog 17 #[.slice A la ca, .slice B lb cb] w fun e w' => e = .returned (.bool (Dv.less a b)) ∧ Bl w w' := by
  have HA := Lib.hid hra; clear hra
  have HB := Lib.hid hrb; clear hrb
  have HLA := Lib.hid hla; clear hla
  have HLB := Lib.hid hlb; clear hlb
  go_enter Try.func17, Try.ntmps17
  go_wp2_with fail
  go_loopw [5] (fun i wr => ∃ k : Nat, k ≤ la ∧ k ≤ lb ∧ i = .int .i64 k ∧ Hid (Dv.less (a.drop k) (b.drop k) = Dv.less a b) ∧ Hid (Bl w wr)) (fun i _ => la - (intOf i).toNat)
  case atStart => exact ⟨0, Nat.zero_le _, Nat.zero_le _, rfl, rfl, Bl.refl w⟩
  case round =>
    obtain ⟨k, hka, hkb, rfl, HT, HBr⟩ := hrel
    have key : ∀ (h : k < la ∧ k < lb), k < a.length ∧ k < b.length := fun h => ⟨by have := HLA.out; omega, by have := HLB.out; omega⟩
    by_cases h1 : k < la
    · by_cases h2 : k < lb
      · obtain ⟨h3, h4⟩ := key ⟨h1, h2⟩
        have HS := Lib.hid (Dv.less_step h3 h4)
        have hr1 : ∃ b0 off, A = some ⟨b0, off, none⟩ ∧ wr.cell? ⟨b0, off + k, none⟩ = some (.int .i64 a[k]) := by
          obtain ⟨b0, off, e, hb0, hc⟩ := HA.out.int h3
          have hl := World.block_lt_of_cell? _ _ hc
          exact ⟨b0, off, e, (Below.cell HBr.out (p := ⟨b0, off + k, none⟩) hl).trans hc⟩
        have hr2 : ∃ b0 off, B = some ⟨b0, off, none⟩ ∧ wr.cell? ⟨b0, off + k, none⟩ = some (.int .i64 b[k]) := by
          obtain ⟨b0, off, e, hb0, hc⟩ := HB.out.int h4
          have hl := World.block_lt_of_cell? _ _ hc
          exact ⟨b0, off, e, (Below.cell HBr.out (p := ⟨b0, off + k, none⟩) hl).trans hc⟩
        obtain ⟨b1, o1, rfl, q1⟩ := hr1
        obtain ⟨b2, o2, rfl, q2⟩ := hr2
        have i0 : (0 : Int) ≤ (k : Int) := by omega
        have i1 : (k : Int) < (la : Int) := by omega
        have i2 : (k : Int) < (lb : Int) := by omega
        generalize a[k] = x at *
        generalize b[k] = y at *
        clear key h3 h4
        by_cases he : x = y
        · subst he
          have HX : Hid (Dv.less (a.drop (k + 1)) (b.drop (k + 1)) = Dv.less a b) := by
            have h := HT.out
            rw [HS.out, if_pos rfl] at h
            exact h
          go_wp2_with fail
          go_quiet (fail)
          go_wp2_with fail
          go_roundw
          case rel => exact ⟨k + 1, by omega, by omega, by go_num, HX.out, by first | exact HBr.out.drewN _ | exact HBr.out.drew | exact HBr.out⟩
          case measure => simp [intOf]; omega
        · have hq : (x == y) = false := by simpa using he
          have HX : Hid (decide (x < y) = Dv.less a b) := by
            have h := HT.out
            rw [HS.out, if_neg he] at h
            exact h
          clear he
          generalize hd : decide (x < y) = dd at *
          go_wp2_with fail
          go_quiet (fail)
          go_wp2_with fail
          go_quiet (fail)
          go_wp2_with fail
          go_ret
          exact ⟨by rw [← HX.out]; try simp, by first | exact HBr.out.drewN _ | exact HBr.out.drew | exact (HBr.out.drewN _).drewN _ | exact HBr.out⟩
      · have HX : Hid (decide (la < lb) = Dv.less a b) := by
          have h := HT.out
          rw [Dv.less_end (.inr (by have := HLB.out; omega)) (by have := HLA.out; omega) (by have := HLB.out; omega)] at h
          rw [HLA.out, HLB.out]
          exact h
        have h5 : decide ((la : Int) < (lb : Int)) = decide (la < lb) := by
          apply decide_eq_decide.2; omega
        go_wp2_with fail
        go_ret
        exact ⟨by rw [← HX.out]; try simp, HBr.out⟩
    · have HX : Hid (decide (la < lb) = Dv.less a b) := by
        have h := HT.out
        rw [Dv.less_end (.inl (by have := HLA.out; omega)) (by have := HLA.out; omega) (by have := HLB.out; omega)] at h
        rw [HLA.out, HLB.out]
        exact h
      go_wp2_with fail
      go_ret
      exact ⟨by rw [← HX.out]; try simp, HBr.out⟩
end Go.Proofs.Ytpblamiiggglaaa
