/- vary.Take: what it tells of any bytes. -/
import Derived.Test.YtmegpmkjhbihaaaRows
import Derived.Test.YtmegpmkjhbihaaaVMath
import Derived.Test.YtmegpmkjhbihaaaVMem
namespace Go.Proofs.Ytmegpmkjhbihaaa
open Go.RowKit

theorem drop_at {l : List Nat} {k : Nat} (h : k < l.length) : l.drop k = l[k] :: l.drop (k + 1) := List.drop_eq_getElem_cons h

/-- Where the loop stands: k bytes are read, X is their number; the variable holds Z. -/
def TakeRel (l : List Nat) (k X : Nat) (Z : Int) : Prop := (k ≤ 9 → Z = (X : Int) ∧ X < 128 ^ k) ∧ Vy.dec l = Vy.scan X k (l.drop k)

section
variable {l : List Nat} {k X : Nat} {Z : Int}
theorem TakeRel.ten (h : TakeRel l k X Z) (hk : k = 10) : Vy.dec l = (0, 0, 4) := by
  rw [h.2]; cases l.drop k <;> simp [Vy.scan, hk]
theorem TakeRel.short (h : TakeRel l k X Z) (hk : k ≠ 10) (hl : k = l.length) : Vy.dec l = (0, 0, 3) := by
  rw [h.2, List.drop_of_length_le (by omega)]; simp [Vy.scan, hk]
theorem TakeRel.last {c : Nat} (h : TakeRel l k X Z) (hk : k ≠ 10) {r : List Nat} (hd : l.drop k = c :: r) (hc : c < 128) : Vy.dec l = Vy.fin X k c := by
  rw [h.2, hd]; simp [Vy.scan, hk, hc]
theorem pow7 (k : Nat) : 2 ^ (7 * k) = 128 ^ k := by rw [Nat.pow_mul]
/-- A digit is put above what stands below. -/
theorem or_digit (X c k : Nat) (hX : X < 128 ^ k) (h : c * 128 ^ k < 18446744073709551616) (hk : k ≤ 9) :
    bits .or .u64 (X : Int) (IntKind.u64.wrap ((c : Int) * 2 ^ (7 * k))) = ((X + c * 128 ^ k : Nat) : Int) := by
  have e : ((c : Int) * 2 ^ (7 * k)) = ((c * 128 ^ k : Nat) : Int) := by rw [← pow7]; push_cast; rfl
  have hX' : X < 18446744073709551616 := Nat.lt_of_lt_of_le hX (Nat.le_trans (Nat.pow_le_pow_right (by decide) hk) (by decide))
  rw [e, IntWalk.u64_in _ ⟨by omega, by omega⟩, bits_or_u64_nat _ _ hX' h, Nat.or_comm, nat_join (7 * k) _ _ (by rw [pow7]; exact Nat.mul_mod_left _ _) (by rw [pow7]; exact hX), Nat.add_comm]
theorem TakeRel.or {c : Nat} (h : TakeRel l k X Z) (hk : k ≤ 9) (hc : c < 128) (h9 : k = 9 → c ≤ 1) :
    bits .or .u64 Z (IntKind.u64.wrap ((c : Int) * 2 ^ (7 * k))) = ((X + c * 128 ^ k : Nat) : Int) := by
  obtain ⟨rfl, hX⟩ := h.1 hk
  refine or_digit X c k hX ?_ hk
  by_cases e : k = 9
  · have := h9 e; subst e
    have e : (128 : Nat) ^ 9 = 9223372036854775808 := by decide
    rw [e]; omega
  · have h8 : 128 ^ k ≤ 128 ^ 8 := Nat.pow_le_pow_right (by decide) (by omega)
    have e : (128 : Nat) ^ 8 = 72057594037927936 := by decide
    rw [e] at h8
    exact Nat.lt_of_le_of_lt (Nat.mul_le_mul (by omega : c ≤ 127) h8) (by decide)
theorem TakeRel.next {c : Nat} (h : TakeRel l k X Z) (hk : k ≠ 10) (hd : l.drop k = c :: l.drop (k + 1)) (hc : 128 ≤ c) (hc2 : c < 256) :
    TakeRel l (k + 1) (X + (c - 128) * 128 ^ k) (bits .or .u64 Z (IntKind.u64.wrap (((c : Int) - 128) * 2 ^ (7 * k)))) := by
  refine ⟨fun h9 => ?_, ?_⟩
  · rw [show ((c : Int) - 128) = ((c - 128 : Nat) : Int) by omega, h.or (by omega) (by omega) (by omega)]
    refine ⟨rfl, ?_⟩
    have := (h.1 (by omega)).2
    rw [Nat.pow_succ]
    have : (c - 128) * 128 ^ k ≤ 127 * 128 ^ k := Nat.mul_le_mul_right _ (by omega)
    omega
  · rw [h.2, hd]; simp only [Vy.scan]; rw [if_neg hk, if_neg (by omega)]
end

set_option maxRecDepth 100000 in
set_option maxHeartbeats 400000 in
theorem take_any (A : Option Addr) (len cap : Nat) (l : List Nat) (w : World) (B : Nat) (hl : len = l.length) (hmax : len ≤ 9223372036854775807)
    (hr : Rd w B A (bys l)) (hb : ∀ c ∈ l, c < 256) :
    Calls Try.prog 42 #[.slice A len cap] w fun e w' =>
      e = .returned (.tuple #[.int .u64 (Vy.dec l).1, .int .i64 (Vy.dec l).2.1, .int .i64 (Vy.dec l).2.2]) ∧ w = w' := by
  have HL := Lib.hid hl; clear hl
  have HR := Lib.hid hr; clear hr
  have HB := Lib.hid hb; clear hb
  go_enter Try.func42, Try.ntmps42
  go_wp2
  go_step3
  go_wp2
  go_step3
  go_wp2
  go_loop [5, 6] (fun x i => ∃ (k X : Nat) (Z : Int), k ≤ 10 ∧ k ≤ len ∧ i = .int .i64 k ∧ x = .int .u64 Z ∧ TakeRel l k X Z) (fun _ i => 10 - (intOf i).toNat)
  case atStart => exact ⟨0, 0, 0, by omega, by omega, rfl, rfl, fun _ => ⟨rfl, by simp⟩, rfl⟩
  case round =>
    obtain ⟨k, X, Z, hk10, hkl, rfl, rfl, HX⟩ := hrel
    by_cases h10 : k = 10
    · have hx : ((k : Int) == 10) = true := by simp; omega
      have HK := Lib.hid h10; clear h10
      go_wp2
      have hv : Vy.dec l = (0, 0, 4) := HX.ten HK.out
      go_ret3
      exact ⟨by rw [hv]; rfl, rfl⟩
    · have hx : ((k : Int) == 10) = false := by simp; omega
      by_cases hlen : k = len
      · have hy : ((k : Int) == (len : Int)) = true := by simp; omega
        have HK := Lib.hid hlen; clear hlen
        go_wp2
        have hv : Vy.dec l = (0, 0, 3) := HX.short h10 (by rw [← HL.out]; exact HK.out)
        go_ret3
        exact ⟨by rw [hv]; rfl, rfl⟩
      · have hy : ((k : Int) == (len : Int)) = false := by simp; omega
        have hlt : k < len := by omega
        have hj : k < l.length := by have := HL.out; omega
        obtain ⟨b, off, rfl, _, hcell⟩ := HR.out.byte hj
        have hc := HB.out _ (List.getElem_mem hj)
        have HD := Lib.hid (drop_at hj)
        generalize l[k] = c at hcell hc HD
        clear hj
        by_cases hc128 : c < 128
        · have HF := Lib.hid (HX.last h10 HD.out hc128)
          by_cases h91 : k = 9 ∧ 1 < c
          · have k9 : ((k : Int) == 9) = true := by simp; omega
            have c1 : 1 < c := h91.2
            have HV : Hid (Vy.dec l = (0, 0, 4)) := by rw [HF.out]; unfold Vy.fin; rw [if_pos h91]; exact rfl
            have HK := Lib.hid h91; clear h91 HF
            go_wp2
            go_ret3
            exact ⟨by rw [HV.out]; rfl, rfl⟩
          · by_cases h00 : 0 < k ∧ c = 0
            · have c0 : ((c : Int) == 0) = true := by simp; omega
              have k0 : 0 < k := h00.1
              have c1 : c ≤ 1 := by omega
              have HV : Hid (Vy.dec l = (0, 0, 2)) := by rw [HF.out]; unfold Vy.fin; rw [if_neg h91, if_pos h00]; exact rfl
              have HK := Lib.hid h91; clear h91 HF
              have HK2 := Lib.hid h00; clear h00
              by_cases h9 : k = 9
              · have k9 : ((k : Int) == 9) = true := by simp; omega
                have HK9 := Lib.hid h9; clear h9
                go_wp2
                go_ret3
                exact ⟨by rw [HV.out]; rfl, rfl⟩
              · have k9 : ((k : Int) == 9) = false := by simp; omega
                go_wp2
                go_ret3
                exact ⟨by rw [HV.out]; rfl, rfl⟩
            · have HV : Hid (Vy.dec l = (X + c * 128 ^ k, k + 1, 0)) := by rw [HF.out]; unfold Vy.fin; rw [if_neg h91, if_neg h00]; exact rfl
              have HO := Lib.hid (HX.or (by omega) (by omega) (fun h => by omega : k = 9 → c ≤ 1))
              clear HF
              by_cases h9 : k = 9
              · have k9 : ((k : Int) == 9) = true := by simp; omega
                have c1 : c ≤ 1 := by omega
                have k0 : 0 < k := by omega
                have c0 : ((c : Int) == 0) = false := by simp; omega
                have HK9 := Lib.hid h9; clear h9
                have HK := Lib.hid h91; clear h91
                have HK2 := Lib.hid h00; clear h00
                go_wp2
                go_ret3
                exact ⟨by rw [HV.out, HO.out]; go_num, rfl⟩
              · have k9 : ((k : Int) == 9) = false := by simp; omega
                by_cases k0 : 0 < k
                · have c0 : ((c : Int) == 0) = false := by simp; omega
                  have HK := Lib.hid h91; clear h91
                  have HK2 := Lib.hid h00; clear h00
                  go_wp2
                  go_ret3
                  exact ⟨by rw [HV.out, HO.out]; go_num, rfl⟩
                · have HK := Lib.hid h91; clear h91
                  have HK2 := Lib.hid h00; clear h00
                  go_wp2
                  go_ret3
                  exact ⟨by rw [HV.out, HO.out]; go_num, rfl⟩
        · have hc0 : 128 ≤ c := by omega
          go_wp2
          go_round
          case rel => exact ⟨k + 1, _, _, by omega, by omega, by go_num, rfl, HX.next h10 HD.out hc0 hc⟩
          case measure => simp [intOf]; omega
end Go.Proofs.Ytmegpmkjhbihaaa
