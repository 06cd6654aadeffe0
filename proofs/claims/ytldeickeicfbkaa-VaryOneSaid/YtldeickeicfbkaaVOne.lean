/- VaryOne: what is taken of any bytes are just the bytes of the number that is told. -/
import Derived.Test.YtldeickeicfbkaaVAwake
import Derived.Deep.RegionWith
import Derived.Deep.RegionHeld3
namespace Go.Proofs.Ytldeickeicfbkaa
open Go.RowKit

set_option maxRecDepth 100000 in
set_option maxHeartbeats 400000 in
theorem varyOne_any (A : Option Addr) (len cap : Nat) (l : List Nat) (w : World) (hl : len = l.length) (hlc : len ≤ cap) (hr : Rd w w.heap.size A (bys l)) (hb : ∀ c ∈ l, c < 256) :
    Calls Try.prog 5 #[.slice A len cap] w fun e w' => e = .returned (.bool true) ∧ Below w.heap.size w w' := by
  have HL := Lib.hid hl; clear hl
  have HR := Lib.hid hr; clear hr
  have HB := Lib.hid hb; clear hb
  by_cases h60 : 60 < len
  · go_enter Try.func5, Try.ntmps5
    go_wp2_with (go_at_call 6; refine (awake_any _).mono ?_; rintro e w1 ⟨rfl, hb1⟩)
    go_ret
    exact ⟨rfl, hb1⟩
  · go_enter Try.func5, Try.ntmps5
    go_wp2_with fail
    refine (awake_any _).mono ?_
    rintro e w1 ⟨rfl, hb1⟩
    have HB1 := Lib.hid hb1; clear hb1
    go_wp2_with fail
    refine (take_any A len cap l _ w.heap.size HL.out (by omega) (by exact HR.out.below HB1.out) HB.out).mono ?_
    rintro e w' ⟨rfl, rfl⟩
    by_cases he : (Vy.dec l).2.2 = 0
    · obtain ⟨v, m, hd, hv, hm0, hml, hen⟩ := Vy.dec_ok l HB.out he
      rw [hd]
      have HE := Lib.hid hen; clear hen
      have hm1 : m ≤ len := by rw [HL.out]; exact hml
      clear he hd hml
      go_wp2_with fail
      have b1 : decide ((1 : Int) ≤ (m : Int)) = true := by simp; omega
      have b2 : decide ((m : Int) ≤ (len : Int)) = true := by simp; omega
      have hm64 : m ≤ cap := by omega
      go_region_held3 (fun _ => True) (trivial) (first
        | (go_at_call 10; ((with_reducible refine (put_any v _ hv).mono ?_); rintro e w2 ⟨A2, n2, c2, rfl, hn2, hc2, hown2, hb2⟩; have HN2 := Lib.hid hn2; have HO2 := Lib.hid hown2; have HB2 := Lib.hid hb2; clear hn2 hown2 hb2))
        | (go_at_call 9; ((with_reducible refine (same_any _ _ _ _ _ _ (Vy.enc v) (l.take m) _ w2.heap.size HN2.out ?_ ?_ ?_ ?_).mono ?_); (rw [List.length_take]; have := HL.out; omega); (have := HN2.out; have := Vy.enc_len v; omega); (exact Rd.own HO2.out); (rw [bys_take]; exact ((((HR.out.below HB1.out).drew.bl HB1.out.size HB2.out).more (Nat.le_trans HB1.out.size HB2.out.size)).take m)); rintro e w3 ⟨rfl, q, rfl⟩; rw [decide_eq_true HE.out])))
      go_wp2
      go_ret
      exact ⟨rfl, ((Bl.own HB1.out).drew.trans HB2.out).drewN q⟩
    · obtain ⟨h1, h2⟩ := Vy.dec_err l he
      have he' : (((Vy.dec l).2.2 : Int) != 0) = true := by simp; omega
      rw [h1, h2]
      generalize (Vy.dec l).2.2 = x at he he'
      clear h1 h2 he
      go_wp2_with fail
      go_ret
      exact ⟨rfl, HB1.out⟩
end Go.Proofs.Ytldeickeicfbkaa
