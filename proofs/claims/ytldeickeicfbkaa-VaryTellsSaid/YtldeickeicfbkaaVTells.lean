/- VaryTells: Put and Take are as the document says. -/
import Derived.Test.YtldeickeicfbkaaVAwake
import Derived.Test.YtldeickeicfbkaaVRTake
import Derived.Test.YtldeickeicfbkaaVRPut
namespace Go.Proofs.Ytldeickeicfbkaa
open Go.RowKit

set_option maxRecDepth 100000 in
set_option maxHeartbeats 400000 in
theorem varyTells_any (n : Nat) (A : Option Addr) (len cap : Nat) (l : List Nat) (w : World) (hn : n < 18446744073709551616) (hl : len = l.length) (hr : Rd w w.heap.size A (bys l)) (hb : ∀ c ∈ l, c < 256) :
    Calls Try.prog 3 #[.int .u64 n, .slice A len cap] w fun e w' => e = .returned (.bool true) ∧ Below w.heap.size w w' := by
  have HL := Lib.hid hl; clear hl
  have HR := Lib.hid hr; clear hr
  have HB := Lib.hid hb; clear hb
  by_cases h60 : 60 < len
  · go_enter Try.func3, Try.ntmps3
    go_wp2_with (go_at_call 6; refine (awake_any _).mono ?_; rintro e w1 ⟨rfl, hb1⟩)
    go_ret
    exact ⟨rfl, hb1⟩
  · go_enter Try.func3, Try.ntmps3
    go_wp2_with fail
    refine (awake_any _).mono ?_
    rintro e w1 ⟨rfl, hb1⟩
    have HB1 := Lib.hid hb1; clear hb1
    go_wp2_with fail
    refine (take_any A len cap l _ w.heap.size HL.out (by omega) (by exact HR.out.below HB1.out) HB.out).mono ?_
    rintro e w' ⟨rfl, rfl⟩
    generalize hd1 : (Vy.dec l).1 = d1
    generalize hd2 : (Vy.dec l).2.1 = d2
    generalize hd3 : (Vy.dec l).2.2 = d3
    have HD1 := Lib.hid hd1; clear hd1
    have HD2 := Lib.hid hd2; clear hd2
    have HD3 := Lib.hid hd3; clear hd3
    go_wp2_with fail
    refine (rtake_any A len cap l _ w.heap.size HL.out (by omega) (by exact HR.out.below HB1.out) HB.out).mono ?_
    rintro e w' ⟨rfl, rfl⟩
    rw [HD1.out, HD2.out, HD3.out]
    go_wp2_with fail
    refine (put_any n _ hn).mono ?_
    rintro e w2 ⟨A2, n2, c2, rfl, hn2, hc2, hown2, hb2⟩
    have hel := Vy.enc_len n
    have n2b : n2 ≤ 10 := by omega
    have HN2 := Lib.hid hn2
    have HO2 := Lib.hid hown2
    have HB2 := Lib.hid hb2
    clear hn2 hown2 hb2 hel
    go_wp2_with fail
    refine (rput_any 9 n _ (Nat.lt_of_lt_of_le hn (by decide)) (Nat.le_refl _) hn).mono ?_
    rintro e w3 ⟨A3, n3, c3, rfl, hn3, hc3, hown3, hb3⟩
    have HN3 := Lib.hid hn3
    have HO3 := Lib.hid hown3
    have HB3 := Lib.hid hb3
    clear hn3 hown3 hb3
    go_wp2_with fail
    refine (same_any A2 A3 n2 n3 c2 c3 (Vy.enc n) (Vy.put 9 n) _ w3.heap.size HN2.out HN3.out (by omega) (((Rd.own HO2.out).bl (Nat.le_refl _) HB3.out).more HB3.out.size) (Rd.own HO3.out)).mono ?_
    rintro e w' ⟨rfl, q, rfl⟩
    rw [decide_eq_true (show Vy.enc n = Vy.put 9 n from rfl)]
    go_wp2_with fail
    go_ret
    exact ⟨rfl, (((Bl.own HB1.out).trans HB2.out).trans HB3.out).drewN q⟩
end Go.Proofs.Ytldeickeicfbkaa
