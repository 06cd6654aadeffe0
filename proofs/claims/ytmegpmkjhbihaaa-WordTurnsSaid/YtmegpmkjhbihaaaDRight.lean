/- word.Right, word.Fits and the reference's: may a word be, and does it fit? -/
import Derived.Test.YtmegpmkjhbihaaaGMem
import Derived.Test.YtmegpmkjhbihaaaDMem
import Derived.Test.YtmegpmkjhbihaaaVSame
import Derived.BigQuiet
namespace Go.Proofs.Ytmegpmkjhbihaaa
open Go.RowKit

theorem okT_below (t : Int) : Wd.okT t = belowB t 16 := by
  rw [Bool.eq_iff_iff, Wd.okT_iff, belowB_iff]; omega
theorem okW_all {xs : List Int} (h : xs.length ≤ 24) : Wd.okW xs = xs.all fun t => belowB t 16 := by
  unfold Wd.okW
  rw [decide_eq_true h, Bool.true_and]
  exact congrArg (fun f => xs.all f) (funext okT_below)
theorem fits_all {n : Int} {xs : List Int} (h : Wd.okW xs = true) : Wd.fits n xs = xs.all fun t => belowB t n := by
  have hx := ((Wd.okW_iff xs).1 h).2
  rw [Bool.eq_iff_iff, Wd.fits_iff, List.all_eq_true]
  constructor
  · intro ⟨_, h2⟩ t ht
    exact (belowB_iff _ _).2 ⟨(hx t ht).1, h2 t ht⟩
  · intro h2
    exact ⟨h, fun t ht => ((belowB_iff _ _).1 (h2 t ht)).2⟩
theorem fits_no {n : Int} {xs : List Int} (h : Wd.okW xs = false) : Wd.fits n xs = false := by unfold Wd.fits; rw [h]; rfl
theorem all_no {xs : List Int} {f : Int → Bool} {k : Nat} (hk : k < xs.length) (h : f xs[k] = false) : xs.all f = false := by
  rw [Bool.eq_false_iff]
  intro e
  have := List.all_eq_true.1 e _ (List.getElem_mem hk)
  rw [h] at this; cases this
theorem all_yes {xs : List Int} {f : Int → Bool} (h : ∀ x ∈ xs.take xs.length, f x = true) : xs.all f = true := by
  rw [List.take_length] at h
  exact List.all_eq_true.2 h

set_option maxHeartbeats 400000 in
theorem dbelow_any (n m : Int) (w : World) : Calls Try.prog 40 #[.int .i64 n, .int .i64 m] w fun e w' => e = .returned (.bool (belowB n m)) ∧ w = w' := by
  by_cases h1 : 0 ≤ n
  · by_cases h2 : n < m
    · have HG : Hid (belowB n m = true) := (belowB_iff n m).2 ⟨h1, h2⟩
      go_enter Try.func40, Try.ntmps40
      go_wp2_with fail
      go_ret
      exact ⟨by rw [HG.out]; rfl, rfl⟩
    · have HG : Hid (belowB n m = false) := belowB_no (by omega)
      go_enter Try.func40, Try.ntmps40
      go_wp2_with fail
      go_ret
      exact ⟨by rw [HG.out]; rfl, rfl⟩
  · have HG : Hid (belowB n m = false) := belowB_no (by omega)
    go_enter Try.func40, Try.ntmps40
    go_wp2_with fail
    go_ret
    exact ⟨by rw [HG.out]; rfl, rfl⟩

set_option maxRecDepth 100000 in
set_option maxHeartbeats 400000 in
theorem allBelow_any (A : Option Addr) (len cap : Nat) (xs : List Int) (many : Int) (w : World) (B : Nat) (hlen : len = xs.length) (hmax : len ≤ 9223372036854775807) (hr : Rd w B A (ins xs)) :
    Calls Try.prog 30 #[.slice A len cap, .int .i64 many] w fun e w' => e = .returned (.bool (xs.all fun t => belowB t many)) ∧ w = w' := by
  have HL := Lib.hid hlen; clear hlen
  have HA := Lib.hid hr; clear hr
  go_enter Try.func30, Try.ntmps30
  go_wp2_with fail
  go_loopw [6, 9] (fun _ i wr => ∃ k : Nat, k ≤ len ∧ i = .int .i64 k ∧ wr = w ∧ Hid (∀ x ∈ xs.take k, belowB x many = true)) (fun _ i _ => len - (intOf i).toNat)
  case atStart => exact ⟨0, Nat.zero_le _, rfl, rfl, by simp [Hid]⟩
  case round =>
    obtain ⟨k, hk, rfl, rfl, HF⟩ := hrel
    by_cases hlt : k < len
    · have hj : k < xs.length := by have := HL.out; omega
      obtain ⟨b, off, rfl, _, hcell⟩ := HA.out.int hj
      have HBad := Lib.hid (fun h => all_no (f := fun t => belowB t many) hj h)
      have HGood := Lib.hid (all_snoc (P := fun t => belowB t many = true) hj HF.out)
      generalize xs[k] = x at hcell HBad HGood
      clear hj
      cases hx : belowB x many with
      | true =>
        have HX := Lib.hid hx; clear hx
        go_wp2_with fail
        refine (dbelow_any x many _).mono ?_
        rintro e w' ⟨rfl, rfl⟩
        rw [HX.out]
        go_wp2_with fail
        go_roundw
        case rel => exact ⟨k + 1, by omega, by go_num, by trivial, HGood.out HX.out⟩
        case measure => simp [intOf]; omega
      | false =>
        have HX := Lib.hid hx; clear hx
        have HG := Lib.hid (HBad.out HX.out)
        go_wp2_with fail
        refine (dbelow_any x many _).mono ?_
        rintro e w' ⟨rfl, rfl⟩
        rw [HX.out]
        go_wp2_with fail
        go_ret
        exact ⟨by rw [HG.out]; rfl, rfl⟩
    · go_wp2_with fail
      go_ret
      have hg : (xs.all fun t => belowB t many) = true := all_yes (by
        have h := HF.out
        rw [show k = xs.length by have := HL.out; omega] at h
        exact h)
      exact ⟨by rw [hg]; rfl, rfl⟩

set_option maxHeartbeats 400000 in
theorem dright_any (A : Option Addr) (len cap : Nat) (xs : List Int) (w : World) (B : Nat) (hlen : len = xs.length) (hmax : len ≤ 9223372036854775807) (hr : Rd w B A (ins xs)) :
    Calls Try.prog 13 #[.slice A len cap] w fun e w' => e = .returned (.bool (Wd.okW xs)) ∧ w = w' := by
  have HL := Lib.hid hlen; clear hlen
  have HA := Lib.hid hr; clear hr
  by_cases h24 : len ≤ 24
  · have HG : Hid (Wd.okW xs = xs.all fun t => belowB t 16) := okW_all (by have := HL.out; omega)
    go_enter Try.func13, Try.ntmps13
    go_wp2_with fail
    refine (allBelow_any A len cap xs 16 _ B HL.out hmax HA.out).mono ?_
    rintro e w' ⟨rfl, rfl⟩
    go_wp2_with fail
    go_ret
    exact ⟨by rw [HG.out]; rfl, rfl⟩
  · have HG : Hid (Wd.okW xs = false) := Wd.okW_long (by have := HL.out; omega)
    go_enter Try.func13, Try.ntmps13
    go_wp2_with fail
    go_ret
    exact ⟨by rw [HG.out]; rfl, rfl⟩

set_option maxHeartbeats 400000 in
theorem dfits_any (t n s : Int) (Ag : Option Addr) (lg cg : Nat) (A : Option Addr) (len cap : Nat) (xs : List Int) (w : World) (B : Nat) (hlen : len = xs.length) (hmax : len ≤ 9223372036854775807) (hr : Rd w B A (ins xs)) (hB : B ≤ w.heap.size) :
    Calls Try.prog 15 #[.agg #[.int .i64 t, .int .i64 n, .int .i64 s, .slice Ag lg cg], .slice A len cap] w fun e w' => e = .returned (.bool (Wd.fits t xs)) ∧ Bl w w' := by
  have HL := Lib.hid hlen; clear hlen
  have HA := Lib.hid (hr.alloc hB (.cells #[.int .i64 t, .int .i64 n, .int .i64 s, .slice Ag lg cg] 24)); clear hr
  have HB0 : Hid (Bl w (w.alloc (.cells #[.int .i64 t, .int .i64 n, .int .i64 s, .slice Ag lg cg] 24))) := (Bl.refl w).alloc _
  cases ho : Wd.okW xs with
  | true =>
    have HO := Lib.hid ho
    have HG : Hid (Wd.fits t xs = xs.all fun x => belowB x t) := fits_all ho
    clear ho
    go_enter Try.func15, Try.ntmps15
    go_wp2_with fail
    refine (dright_any A len cap xs _ B HL.out hmax HA.out).mono ?_
    rintro e w' ⟨rfl, rfl⟩
    rw [HO.out]
    go_wp2_with fail
    refine (allBelow_any A len cap xs t _ B HL.out hmax HA.out).mono ?_
    rintro e w' ⟨rfl, rfl⟩
    go_wp2_with fail
    go_ret
    exact ⟨by rw [HG.out]; rfl, HB0.out⟩
  | false =>
    have HO := Lib.hid ho
    have HG : Hid (Wd.fits t xs = false) := fits_no ho
    clear ho
    go_enter Try.func15, Try.ntmps15
    go_wp2_with fail
    refine (dright_any A len cap xs _ B HL.out hmax HA.out).mono ?_
    rintro e w' ⟨rfl, rfl⟩
    rw [HO.out]
    go_wp2_with fail
    go_ret
    exact ⟨by rw [HG.out]; rfl, HB0.out⟩
end Go.Proofs.Ytmegpmkjhbihaaa
