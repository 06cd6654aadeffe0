/- tree.Less: which of two rows of ints stands ahead. -/
import Derived.Test.YtmdepbgcgkifpaaTLess
import Derived.Test.YtmdepbgcgkifpaaVQ
namespace Go.Proofs.Ytmdepbgcgkifpaa
open Go.RowKit

theorem isnan_any (x : Int) (w : World) : Calls Try.prog 34 #[.int .i64 x] w fun e w' => e = .returned (.bool false) ∧ w' = w := by
  go_enter Try.func34, Try.ntmps34
  have hq : (x != x) = false := by simp
  go_wp2
  go_ret
  exact ⟨rfl, rfl⟩
/-- How two ints stand to each other. -/
def cmpI (x y : Int) : Int := if x < y then -1 else if y < x then 1 else 0
theorem cmpi_any (x y : Int) (w : World) : Calls Try.prog 27 #[.int .i64 x, .int .i64 y] w fun e w' => e = .returned (.int .i64 (cmpI x y)) ∧ w' = w := by
  go_enter Try.func27, Try.ntmps27
  go_wp2_with fail
  refine (isnan_any x w).mono ?_
  rintro e w1 ⟨rfl, rfl⟩
  go_wp2_with fail
  refine (isnan_any y _).mono ?_
  rintro e w1 ⟨rfl, rfl⟩
  by_cases h1 : x < y
  · have e1 : cmpI x y = -1 := by unfold cmpI; rw [if_pos h1]
    go_wp2_with fail
    go_ret
    exact ⟨by rw [e1]; rfl, rfl⟩
  · by_cases h2 : y < x
    · have e1 : cmpI x y = 1 := by unfold cmpI; rw [if_neg h1, if_pos h2]
      go_wp2_with fail
      go_ret
      exact ⟨by rw [e1]; rfl, rfl⟩
    · have e1 : cmpI x y = 0 := by unfold cmpI; rw [if_neg h1, if_neg h2]
      go_wp2_with fail
      go_ret
      exact ⟨by rw [e1]; rfl, rfl⟩

namespace Dv
/-- How two rows stand to each other. -/
def cmpR : List Int → List Int → Int
  | [], [] => 0
  | [], _ :: _ => -1
  | _ :: _, [] => 1
  | x :: a, y :: b => if x = y then cmpR a b else cmpI x y
theorem cmp_less : ∀ (a b : List Int), decide (cmpR a b < 0) = less a b
  | [], [] => rfl
  | [], _ :: _ => rfl
  | _ :: _, [] => rfl
  | x :: a, y :: b => by
    unfold cmpR less
    by_cases h : x = y
    · rw [if_pos h, if_pos h]; exact cmp_less a b
    · rw [if_neg h, if_neg h]
      unfold cmpI
      by_cases h1 : x < y
      · rw [if_pos h1]; simp [h1]
      · rw [if_neg h1, if_pos (by omega)]; simp [h1]
theorem cmp_step {a b : List Int} {k : Nat} (ha : k < a.length) (hb : k < b.length) : cmpR (a.drop k) (b.drop k) = if a[k] = b[k] then cmpR (a.drop (k + 1)) (b.drop (k + 1)) else cmpI a[k] b[k] := by
  rw [List.drop_eq_getElem_cons ha, List.drop_eq_getElem_cons hb]
  rfl
theorem cmp_more {a b : List Int} {k : Nat} (ha : k < a.length) (hb : b.length = k) : cmpR (a.drop k) (b.drop k) = 1 := by
  have e : b.drop k = [] := List.drop_eq_nil_of_le (by omega)
  rw [List.drop_eq_getElem_cons ha, e]
  rfl
theorem cmp_end {a b : List Int} {k : Nat} (ha : a.length = k) (hk : k ≤ b.length) : cmpR (a.drop k) (b.drop k) = if a.length < b.length then -1 else 0 := by
  rw [List.drop_eq_nil_of_le (by omega)]
  by_cases e : k < b.length
  · rw [List.drop_eq_getElem_cons e, if_pos (by omega)]; rfl
  · rw [List.drop_eq_nil_of_le (by omega), if_neg (by omega)]; rfl
end Dv

set_option maxRecDepth 100000 in
set_option maxHeartbeats 1000000 in
theorem compare_any (A B : Option Addr) (la lb ca cb : Nat) (a b : List Int) (w : World) (B0 : Nat) (hla : la = a.length) (hlb : lb = b.length) (hma : la ≤ 9223372036854775806) (hra : Rd w B0 A (ins a)) (hrb : Rd w B0 B (ins b)) :
    Calls Try.prog 21 #[.slice A la ca, .slice B lb cb] w fun e w' => e = .returned (.int .i64 (Dv.cmpR a b)) ∧ w' = w := by
  have HA := Lib.hid hra; clear hra
  have HB := Lib.hid hrb; clear hrb
  have HLA := Lib.hid hla; clear hla
  have HLB := Lib.hid hlb; clear hlb
  go_enter Try.func21, Try.ntmps21
  go_wp2_with fail
  go_loopw [11] (fun i wr => ∃ k : Nat, k ≤ la ∧ k ≤ lb ∧ i = .int .i64 k ∧ Hid (Dv.cmpR (a.drop k) (b.drop k) = Dv.cmpR a b) ∧ wr = w) (fun i _ => la - (intOf i).toNat)
  case atStart => exact ⟨0, Nat.zero_le _, Nat.zero_le _, rfl, rfl, rfl⟩
  case round =>
    obtain ⟨k, hka, hkb, rfl, HT, rfl⟩ := hrel
    by_cases h1 : k < la
    · have h3 : k < a.length := by have := HLA.out; omega
      obtain ⟨b1, o1, rfl, _, q1⟩ := HA.out.int h3
      by_cases h2 : k < lb
      · have h4 : k < b.length := by have := HLB.out; omega
        have HS := Lib.hid (Dv.cmp_step h3 h4)
        obtain ⟨b2, o2, rfl, _, q2⟩ := HB.out.int h4
        have i0 : (0 : Int) ≤ (k : Int) := by omega
        have i1 : (k : Int) < (la : Int) := by omega
        have i2 : (k : Int) < (lb : Int) := by omega
        generalize a[k] = x at *
        generalize b[k] = y at *
        clear h3 h4
        go_wp2_with fail
        refine (cmpi_any x y _).mono ?_
        rintro e w1 ⟨rfl, rfl⟩
        by_cases he : x = y
        · subst he
          have HX : Hid (Dv.cmpR (a.drop (k + 1)) (b.drop (k + 1)) = Dv.cmpR a b) := by
            have h := HT.out
            rw [HS.out, if_pos rfl] at h
            exact h
          have e0 : cmpI x x = 0 := by unfold cmpI; rw [if_neg (by omega), if_neg (by omega)]
          rw [e0]
          go_wp2_with fail
          go_roundw
          case rel => exact ⟨k + 1, by omega, by omega, by go_num, by first | exact HX.out | exact ⟨HX.out, trivial⟩⟩
          case measure => simp [intOf]; omega
        · have HX : Hid (cmpI x y = Dv.cmpR a b) := by
            have h := HT.out
            rw [HS.out, if_neg he] at h
            exact h
          have e0 : cmpI x y ≠ 0 := by unfold cmpI; by_cases h1 : x < y <;> by_cases h2 : y < x <;> simp [h1, h2]; omega
          generalize cmpI x y = z at *
          have hq : (z != 0) = true := by simpa using e0
          clear he e0
          go_wp2_with fail
          go_ret
          exact ⟨by rw [← HX.out]; rfl, rfl⟩
      · have HX : Hid (1 = Dv.cmpR a b) := by
          have h := HT.out
          rw [Dv.cmp_more h3 (by have := HLB.out; omega)] at h
          exact h
        have i0 : (0 : Int) ≤ (k : Int) := by omega
        have i1 : (k : Int) < (la : Int) := by omega
        generalize a[k] = x at *
        clear h3
        go_wp2_with fail
        go_ret
        exact ⟨by rw [← HX.out]; rfl, rfl⟩
    · have HX : Hid ((if la < lb then -1 else 0) = Dv.cmpR a b) := by
        have h := HT.out
        rw [Dv.cmp_end (by have := HLA.out; omega) (by have := HLB.out; omega)] at h
        rw [HLA.out, HLB.out]
        exact h
      by_cases h2 : la < lb
      · go_wp2_with fail
        go_ret
        exact ⟨by rw [← HX.out, if_pos h2]; rfl, rfl⟩
      · go_wp2_with fail
        go_ret
        exact ⟨by rw [← HX.out, if_neg h2]; rfl, rfl⟩

theorem less_aux (z : Int) (y : Bool) (a b : Value) (w : World) (hz : decide (z < 0) = y) (hc : Calls Try.prog 21 #[a, b] w fun e w' => e = .returned (.int .i64 z) ∧ w' = w) :
    Calls Try.prog 15 #[a, b] w fun e w' => e = .returned (.bool y) ∧ w' = w := by
  have HC := Lib.hid hc; clear hc
  have HZ := Lib.hid hz; clear hz
  go_enter Try.func15, Try.ntmps15
  go_wp2_with fail
  refine HC.out.mono ?_
  rintro e w1 ⟨rfl, rfl⟩
  go_wp2_with fail
  go_ret
  exact ⟨by rw [← HZ.out]; rfl, rfl⟩
theorem less_any (A B : Option Addr) (la lb ca cb : Nat) (a b : List Int) (w : World) (B0 : Nat) (hla : la = a.length) (hlb : lb = b.length) (hma : la ≤ 9223372036854775806) (hra : Rd w B0 A (ins a)) (hrb : Rd w B0 B (ins b)) :
    Calls Try.prog 15 #[.slice A la ca, .slice B lb cb] w fun e w' => e = .returned (.bool (Dv.less a b)) ∧ w' = w :=
  less_aux _ _ _ _ w (Dv.cmp_less a b) (compare_any A B la lb ca cb a b w B0 hla hlb hma hra hrb)
end Go.Proofs.Ytmdepbgcgkifpaa
