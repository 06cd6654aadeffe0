/- The reference's Right and Fits of words. -/
import Derived.Test.YtmegpmkjhbihaaaDRight
namespace Go.Proofs.Ytmegpmkjhbihaaa
open Go.RowKit

set_option maxRecDepth 100000 in
set_option maxHeartbeats 400000 in
theorem rdright_any (A : Option Addr) (len cap : Nat) (xs : List Int) (w : World) (B : Nat) (hlen : len = xs.length) (hmax : len ≤ 9223372036854775807) (hr : Rd w B A (ins xs)) :
    Calls Try.prog 14 #[.slice A len cap] w fun e w' => e = .returned (.bool (Wd.okW xs)) ∧ w = w' := by
  have HL := Lib.hid hlen; clear hlen
  have HA := Lib.hid hr; clear hr
  by_cases h24 : 24 < len
  · have HG : Hid (Wd.okW xs = false) := Wd.okW_long (by have := HL.out; omega)
    go_enter Try.func14, Try.ntmps14
    go_wp2_with fail
    go_ret
    exact ⟨by rw [HG.out]; rfl, rfl⟩
  · go_enter Try.func14, Try.ntmps14
    go_wp2_with fail
    go_loopw [3] (fun i wr => ∃ k : Nat, k ≤ len ∧ i = .int .i64 k ∧ wr = w ∧ Hid (∀ x ∈ xs.take k, Wd.okT x = true)) (fun i _ => len - (intOf i).toNat)
    case atStart => exact ⟨0, Nat.zero_le _, rfl, rfl, by simp [Hid]⟩
    case round =>
      obtain ⟨k, hk, rfl, rfl, HF⟩ := hrel
      by_cases hlt : k < len
      · have hj : k < xs.length := by have := HL.out; omega
        obtain ⟨b, off, rfl, _, hcell⟩ := HA.out.int hj
        have HBad := Lib.hid (fun h => Wd.okW_one hj h)
        have HGood := Lib.hid (all_snoc (P := fun t => Wd.okT t = true) hj HF.out)
        generalize xs[k] = x at hcell HBad HGood
        clear hj
        by_cases h1 : x < 0
        · have HG := Lib.hid (HBad.out (by rw [okT_below]; exact belowB_no (.inl h1)))
          go_wp2_with fail
          go_ret
          exact ⟨by rw [HG.out]; rfl, rfl⟩
        by_cases h2 : 15 < x
        · have HG := Lib.hid (HBad.out (by rw [okT_below]; exact belowB_no (.inr (by omega))))
          go_wp2_with fail
          go_ret
          exact ⟨by rw [HG.out]; rfl, rfl⟩
        have HX := Lib.hid (HGood.out ((Wd.okT_iff x).2 ⟨by omega, by omega⟩))
        go_wp2_with fail
        go_roundw
        case rel => exact ⟨k + 1, by omega, by go_num, by trivial, HX.out⟩
        case measure => simp [intOf]; omega
      · go_wp2_with fail
        go_ret
        have hg : Wd.okW xs = true := Wd.okW_of (by have := HL.out; omega) (by
          have h := HF.out
          rw [List.take_of_length_le (by have := HL.out; omega)] at h
          exact h)
        exact ⟨by rw [hg]; rfl, rfl⟩

set_option maxRecDepth 100000 in
set_option maxHeartbeats 400000 in
theorem rdfits_any (t n s : Int) (Ag : Option Addr) (lg cg : Nat) (A : Option Addr) (len cap : Nat) (xs : List Int) (w : World) (B : Nat) (hlen : len = xs.length) (hmax : len ≤ 9223372036854775807) (hr : Rd w B A (ins xs)) (hB : B ≤ w.heap.size) :
    Calls Try.prog 16 #[.agg #[.int .i64 t, .int .i64 n, .int .i64 s, .slice Ag lg cg], .slice A len cap] w fun e w' => e = .returned (.bool (Wd.fits t xs)) ∧ Bl w w' := by
  have HL := Lib.hid hlen; clear hlen
  have HA := Lib.hid (hr.alloc hB (.cells #[.int .i64 t, .int .i64 n, .int .i64 s, .slice Ag lg cg] 24)); clear hr
  have HB0 : Hid (Bl w (w.alloc (.cells #[.int .i64 t, .int .i64 n, .int .i64 s, .slice Ag lg cg] 24))) := (Bl.refl w).alloc _
  have HK0 := Lib.hid (Bk.new w 24 #[.int .i64 t, .int .i64 n, .int .i64 s, .slice Ag lg cg])
  cases ho : Wd.okW xs with
  | true =>
    have HO := Lib.hid ho
    have HG : Hid (Wd.fits t xs = xs.all fun x => belowB x t) := fits_all ho
    have HN : Hid (∀ x ∈ xs, 0 ≤ x) := fun x hx => (((Wd.okW_iff xs).1 ho).2 x hx).1
    clear ho
    go_enter Try.func16, Try.ntmps16
    go_wp2_with fail
    refine (rdright_any A len cap xs _ B HL.out hmax HA.out).mono ?_
    rintro e w' ⟨rfl, rfl⟩
    rw [HO.out]
    go_wp2_with fail
    generalize hw0 : w.alloc (.cells #[.int .i64 t, .int .i64 n, .int .i64 s, .slice Ag lg cg] 24) = w0 at HB0 HK0 HA ⊢
    have HW0 := Lib.hid hw0; clear hw0
    go_loopw [5] (fun i wr => ∃ (k q : Nat), k ≤ len ∧ i = .int .i64 k ∧ wr = w0.drewN q ∧ Hid (∀ x ∈ xs.take k, belowB x t = true)) (fun i _ => len - (intOf i).toNat)
    case atStart => exact ⟨0, 0, Nat.zero_le _, rfl, rfl, by simp [Hid]⟩
    case round =>
      obtain ⟨k, q, hk, rfl, rfl, HF⟩ := hrel
      have k0 : w0.cell? ⟨w.heap.size, 0, none⟩ = some (.int .i64 t) := HK0.out.cell 0
      by_cases hlt : k < len
      · have hj : k < xs.length := by have := HL.out; omega
        obtain ⟨b, off, rfl, _, hcell⟩ := HA.out.int hj
        have HBad := Lib.hid (fun h => all_no (f := fun x => belowB x t) hj h)
        have HGood := Lib.hid (all_snoc (P := fun x => belowB x t = true) hj HF.out)
        have hx0 := HN.out _ (List.getElem_mem hj)
        generalize xs[k] = x at hcell HBad HGood hx0
        clear hj
        by_cases h1 : t ≤ x
        · have HG' := Lib.hid (HBad.out (belowB_no (.inr h1)))
          go_wp2
          go_quiet (fail)
          go_wp2
          go_ret
          exact ⟨by rw [HG.out, HG'.out]; rfl, ((HB0.out.drewN _).drewN _)⟩
        · have HX := Lib.hid (HGood.out ((belowB_iff x t).2 ⟨hx0, by omega⟩))
          go_wp2
          go_quiet (fail)
          go_wp2
          go_roundw
          case rel => exact ⟨k + 1, _, by omega, by go_num, by trivial, HX.out⟩
          case measure => simp [intOf]; omega
      · go_wp2
        go_ret
        have hg : (xs.all fun x => belowB x t) = true := all_yes (by
          have h := HF.out
          rw [show k = xs.length by have := HL.out; omega] at h
          exact h)
        exact ⟨by rw [HG.out, hg]; rfl, (HB0.out.drewN _)⟩
  | false =>
    have HO := Lib.hid ho
    have HG : Hid (Wd.fits t xs = false) := fits_no ho
    clear ho
    go_enter Try.func16, Try.ntmps16
    go_wp2_with fail
    refine (rdright_any A len cap xs _ B HL.out hmax HA.out).mono ?_
    rintro e w' ⟨rfl, rfl⟩
    rw [HO.out]
    go_wp2_with fail
    go_ret
    exact ⟨by rw [HG.out]; rfl, HB0.out⟩
end Go.Proofs.Ytmegpmkjhbihaaa
