/- awake of layer 4: the calls whose answers the document fixes. -/
import Derived.Test.YtmegpmkjhbihaaaDRApply
import Derived.Test.YtmegpmkjhbihaaaISame
namespace Go.Proofs.Ytmegpmkjhbihaaa
open Go.RowKit

theorem rd_new (w : World) (cs : Array Value) (t : TypeId) (xs : List Value) (g B : Nat) (hg : g = w.heap.size) (hB : g < B) (h : cs.toList = xs) : Rd (w.alloc (.cells cs t)) B (some ⟨g, 0, none⟩) xs := by
  intro _
  subst hg
  refine ⟨w.heap.size, 0, rfl, hB, fun j u hu => ?_⟩
  rw [Nat.zero_add, cell_of_row _ _ j _ _ _ (heap_alloc_new w (.cells cs t)), ← Array.getElem?_toList, h]
  exact hu
theorem rd_far {w1 : World} {A : Option Addr} {xs : List Value} (h : Rd w1 w1.heap.size A xs) {W : World} (hb : Bl w1 W) : Rd W W.heap.size A xs := (h.bl (Nat.le_refl _) hb).more hb.size
theorem dsame_bl (A A' : Option Addr) (len len' cap cap' : Nat) (l r : List Nat) (w : World) (B : Nat) (hl : len = l.length) (hl' : len' = r.length) (hmax : len ≤ 9223372036854775807) (hr : Rd w B A (bys l)) (hr' : Rd w B A' (bys r)) :
    Calls Try.prog 17 #[.slice A len cap, .slice A' len' cap'] w fun e w' => e = .returned (.bool (decide (l = r))) ∧ Bl w w' :=
  (same_any A A' len len' cap cap' l r w B hl hl' hmax hr hr').mono fun e w' ⟨he, q, hq⟩ => ⟨he, by subst hq; exact (Bl.refl w).drewN q⟩
theorem disame_bl (A A' : Option Addr) (len len' cap cap' : Nat) (l r : List Int) (w : World) (B : Nat) (hl : len = l.length) (hl' : len' = r.length) (hmax : len ≤ 9223372036854775807) (hr : Rd w B A (ins l)) (hr' : Rd w B A' (ins r)) :
    Calls Try.prog 18 #[.slice A len cap, .slice A' len' cap'] w fun e w' => e = .returned (.bool (decide (l = r))) ∧ Bl w w' :=
  (isame_any A A' len len' cap cap' l r w B hl hl' hmax hr hr').mono fun e w' ⟨he, q, hq⟩ => ⟨he, by subst hq; exact (Bl.refl w).drewN q⟩
theorem IWPost.lit {xs : List Int} {x : Int} {n : Nat} {w w' : World} {e : Ending} (h : IWPost xs x w e w') (hn : xs.length = n) :
    ∃ A c, e = .returned (.tuple #[.slice A n c, .int .i64 x]) ∧ n ≤ c ∧ Rd w' w'.heap.size A (ins xs) ∧ Bl w w' := by
  subst hn
  obtain ⟨A, c, he, hc, ho, hb⟩ := h
  exact ⟨A, c, he, hc, Rd.own ho, hb⟩
theorem DBPost.lit {xs : List Int} {x : Int} {l : List Nat} {n : Nat} {w w' : World} {e : Ending} (h : DBPost xs w e w') (hx : wbErr xs = x) (hl : wbOf xs = l) (hn : l.length = n) :
    ∃ A c, e = .returned (.tuple #[.slice A n c, .int .i64 x]) ∧ n ≤ c ∧ Rd w' w'.heap.size A (bys l) ∧ Bl w w' := by
  obtain ⟨A, m, c, he, hm, hc, ho, hb⟩ := h
  subst hx hl hn hm
  exact ⟨A, c, he, hc, Rd.own ho, hb⟩

def awEs : List Wd.Ed := [⟨0, false, 1⟩, ⟨1, true, 0⟩, ⟨3, false, 2⟩]
theorem aw_apply : applied [5, 6, 7] awEs = ([1, 5, 7, 2], 0) := by rfl
theorem aw_err : wbErr [5, 6] = 0 := by rfl
theorem aw_bytes : wbOf [5, 6] = [2, 5, 6] := by rfl
theorem aw_read : Wd.readW [2, 5, 6] = ([5, 6], 0) := by rfl
theorem aw_none : applied [] [⟨0, true, 0⟩] = ([], 2) := by rfl
theorem aw_ok : Wd.okW [15] = true := by rfl
theorem aw_no : Wd.okW [16] = false := by rfl
theorem aw_fit : Wd.fits 3 [2] = true := by rfl
theorem aw_unfit : Wd.fits 2 [2] = false := by rfl

set_option maxRecDepth 100000 in
set_option maxHeartbeats 4000000 in
theorem dawake_any (w : World) : Calls Try.prog 6 #[] w fun e w' => e = .returned (.bool true) ∧ Bl w w' := by
  have HA0 : Hid (Rd ((w.alloc (.cells #[.int .i64 5, .int .i64 6, .int .i64 7] 3)).alloc (.cells #[.int .i64 0, .bool false, .int .i64 1, .int .i64 1, .bool true, .int .i64 0, .int .i64 3, .bool false, .int .i64 2] 43)) (w.heap.size + 1 + 1) (some ⟨w.heap.size, 0, none⟩) (ins [5, 6, 7])) :=
    ((rd_new w #[.int .i64 5, .int .i64 6, .int .i64 7] 3 (ins [5, 6, 7]) w.heap.size (w.heap.size + 1) rfl (by omega) rfl).alloc (by simp) _).more (by omega)
  have HE0 : Hid (Rd ((w.alloc (.cells #[.int .i64 5, .int .i64 6, .int .i64 7] 3)).alloc (.cells #[.int .i64 0, .bool false, .int .i64 1, .int .i64 1, .bool true, .int .i64 0, .int .i64 3, .bool false, .int .i64 2] 43)) (w.heap.size + 1 + 1) (some ⟨w.heap.size + 1, 0, none⟩) (edRow awEs)) :=
    rd_new _ _ _ _ _ _ (by simp) (by omega) rfl
  have HB0 : Hid (Bl w ((w.alloc (.cells #[.int .i64 5, .int .i64 6, .int .i64 7] 3)).alloc (.cells #[.int .i64 0, .bool false, .int .i64 1, .int .i64 1, .bool true, .int .i64 0, .int .i64 3, .bool false, .int .i64 2] 43))) := ((Bl.refl w).alloc _).alloc _
  go_enter Try.func6, Try.ntmps6
  go_wp2_with fail
  refine (apply_any _ 3 3 [5, 6, 7] _ 3 3 awEs _ (w.heap.size + 1 + 1) rfl (by omega) (by omega) HA0.out rfl (by omega) HE0.out (by simp)).mono ?_
  rw [aw_apply]
  intro e w1 h1
  obtain ⟨A1, c1, rfl, hc1, hr1, hb1⟩ := h1.lit (n := 4) rfl
  have HW := Lib.hid hr1
  have HB1 := Lib.hid (HB0.out.trans hb1)
  clear h1 hr1 hb1 HA0 HE0 HB0
  have HA1 : Hid (Rd (w1.alloc (.cells #[.int .i64 5, .int .i64 6] 3)) (w1.heap.size + 1) (some ⟨w1.heap.size, 0, none⟩) (ins [5, 6])) := rd_new _ _ _ _ _ _ rfl (by omega) rfl
  go_wp2_with fail
  refine (dbytes_any _ 2 2 [5, 6] _ (w1.heap.size + 1) rfl (by omega) HA1.out (by simp)).mono ?_
  intro e w2 h2
  obtain ⟨A2, c2, rfl, hc2, hr2, hb2⟩ := h2.lit (n := 3) aw_err aw_bytes rfl
  have hb2' : Bl w1 w2 := ((Bl.refl w1).alloc _).trans hb2
  have HW2 := Lib.hid (rd_far HW.out hb2')
  have HX := Lib.hid hr2
  have HB2 := Lib.hid (HB1.out.trans hb2')
  clear h2 hr2 hb2 hb2' HA1 HB1 HW
  go_wp2_with fail
  refine (dread_any A2 3 c2 [2, 5, 6] _ w2.heap.size rfl (by omega) HX.out (by decide)).mono ?_
  rw [aw_read]
  intro e w3 h3
  obtain ⟨A3, c3, rfl, hc3, hr3, hb3⟩ := h3.lit (n := 2) rfl
  have HW3 := Lib.hid (rd_far HW2.out hb3)
  have HX3 := Lib.hid (rd_far HX.out hb3)
  have HY : Hid (Rd w3 w3.heap.size A3 (ins [5, 6])) := hr3
  have HB3 := Lib.hid (HB2.out.trans hb3)
  clear h3 hr3 hb3 HW2 HX HB2
  have HE3 : Hid (Rd (w3.alloc (.cells #[.int .i64 0, .bool true, .int .i64 0] 43)) (w3.heap.size + 1) (some ⟨w3.heap.size, 0, none⟩) (edRow [⟨0, true, 0⟩])) := rd_new _ _ _ _ _ _ rfl (by omega) rfl
  go_wp2_with fail
  refine (apply_any none 0 0 [] _ 1 1 [⟨0, true, 0⟩] _ (w3.heap.size + 1) rfl (by omega) (by omega) Rd.nil rfl (by omega) HE3.out (by simp)).mono ?_
  rw [aw_none]
  intro e w4 h4
  obtain ⟨A4, c4, rfl, hc4, _, hb4⟩ := h4.lit (n := 0) rfl
  have hb4' : Bl w3 w4 := ((Bl.refl w3).alloc _).trans hb4
  have HW4 := Lib.hid (rd_far HW3.out hb4')
  have HX4 := Lib.hid (rd_far HX3.out hb4')
  have HY4 := Lib.hid (rd_far HY.out hb4')
  have HB4 := Lib.hid (HB3.out.trans hb4')
  clear h4 hb4 hb4' HE3 HW3 HX3 HY HB3
  have HL5 : Hid (Rd (w4.alloc (.cells #[.int .i64 1, .int .i64 5, .int .i64 7, .int .i64 2] 3)) (w4.heap.size + 1) (some ⟨w4.heap.size, 0, none⟩) (ins [1, 5, 7, 2])) := rd_new _ _ _ _ _ _ rfl (by omega) rfl
  go_wp2_with fail
  refine (disame_bl A1 _ 4 4 c1 4 [1, 5, 7, 2] [1, 5, 7, 2] _ (w4.heap.size + 1) rfl rfl (by decide) ((HW4.out.alloc (Nat.le_refl _) _).more (by omega)) HL5.out).mono ?_
  rintro e w5 ⟨rfl, hb5⟩
  rw [decide_eq_true rfl]
  have hb5' : Bl w4 w5 := ((Bl.refl w4).alloc _).trans hb5
  have HX5 := Lib.hid (rd_far HX4.out hb5')
  have HY5 := Lib.hid (rd_far HY4.out hb5')
  have HB5 := Lib.hid (HB4.out.trans hb5')
  clear hb5 hb5' HL5 HW4 HX4 HY4 HB4
  have HL6 : Hid (Rd (w5.alloc (.cells #[.int .u8 2, .int .u8 5, .int .u8 6] 5)) (w5.heap.size + 1) (some ⟨w5.heap.size, 0, none⟩) (bys [2, 5, 6])) := rd_new _ _ _ _ _ _ rfl (by omega) rfl
  go_wp2_with fail
  refine (dsame_bl A2 _ 3 3 c2 3 [2, 5, 6] [2, 5, 6] _ (w5.heap.size + 1) rfl rfl (by decide) ((HX5.out.alloc (Nat.le_refl _) _).more (by omega)) HL6.out).mono ?_
  rintro e w6 ⟨rfl, hb6⟩
  rw [decide_eq_true rfl]
  have hb6' : Bl w5 w6 := ((Bl.refl w5).alloc _).trans hb6
  have HY6 := Lib.hid (rd_far HY5.out hb6')
  have HB6 := Lib.hid (HB5.out.trans hb6')
  clear hb6 hb6' HL6 HX5 HY5 HB5
  have HL7 : Hid (Rd (w6.alloc (.cells #[.int .i64 5, .int .i64 6] 3)) (w6.heap.size + 1) (some ⟨w6.heap.size, 0, none⟩) (ins [5, 6])) := rd_new _ _ _ _ _ _ rfl (by omega) rfl
  go_wp2_with fail
  refine (disame_bl A3 _ 2 2 c3 2 [5, 6] [5, 6] _ (w6.heap.size + 1) rfl rfl (by decide) ((HY6.out.alloc (Nat.le_refl _) _).more (by omega)) HL7.out).mono ?_
  rintro e w7 ⟨rfl, hb7⟩
  rw [decide_eq_true rfl]
  have HB7 := Lib.hid (HB6.out.trans (((Bl.refl w6).alloc _).trans hb7))
  clear hb7 HL7 HY6 HB6
  have HL8 : Hid (Rd (w7.alloc (.cells #[.int .i64 15] 3)) (w7.heap.size + 1) (some ⟨w7.heap.size, 0, none⟩) (ins [15])) := rd_new _ _ _ _ _ _ rfl (by omega) rfl
  go_wp2_with fail
  refine (dright_any _ 1 1 [15] _ (w7.heap.size + 1) rfl (by decide) HL8.out).mono ?_
  rintro e w' ⟨rfl, rfl⟩
  rw [aw_ok]
  have HB8 := Lib.hid (HB7.out.alloc (.cells #[.int .i64 15] 3))
  clear HL8 HB7
  generalize hw8 : w7.alloc (.cells #[.int .i64 15] 3) = w8 at HB8 ⊢
  clear hw8
  have HL9 : Hid (Rd (w8.alloc (.cells #[.int .i64 16] 3)) (w8.heap.size + 1) (some ⟨w8.heap.size, 0, none⟩) (ins [16])) := rd_new _ _ _ _ _ _ rfl (by omega) rfl
  go_wp2_with fail
  refine (dright_any _ 1 1 [16] _ (w8.heap.size + 1) rfl (by decide) HL9.out).mono ?_
  rintro e w' ⟨rfl, rfl⟩
  rw [aw_no]
  have HB9 := Lib.hid (HB8.out.alloc (.cells #[.int .i64 16] 3))
  clear HL9 HB8
  generalize hw9 : w8.alloc (.cells #[.int .i64 16] 3) = w9 at HB9 ⊢
  clear hw9
  have HL10 : Hid (Rd (w9.alloc (.cells #[.int .i64 2] 3)) (w9.heap.size + 1) (some ⟨w9.heap.size, 0, none⟩) (ins [2])) := rd_new _ _ _ _ _ _ rfl (by omega) rfl
  go_wp2_with fail
  refine (dfits_any 3 0 0 none 0 0 _ 1 1 [2] _ (w9.heap.size + 1) rfl (by decide) HL10.out (by simp)).mono ?_
  rintro e w10 ⟨rfl, hb10⟩
  rw [aw_fit]
  have HB10 := Lib.hid ((HB9.out.alloc _).trans hb10)
  clear HL10 HB9 hb10
  have HL11 : Hid (Rd (w10.alloc (.cells #[.int .i64 2] 3)) (w10.heap.size + 1) (some ⟨w10.heap.size, 0, none⟩) (ins [2])) := rd_new _ _ _ _ _ _ rfl (by omega) rfl
  go_wp2_with fail
  refine (dfits_any 2 0 0 none 0 0 _ 1 1 [2] _ (w10.heap.size + 1) rfl (by decide) HL11.out (by simp)).mono ?_
  rintro e w11 ⟨rfl, hb11⟩
  rw [aw_unfit]
  have HB11 := Lib.hid ((HB10.out.alloc _).trans hb11)
  clear HL11 HB10 hb11
  go_wp2_with fail
  refine (may_any none 0 0 [] 0 _ 0 rfl (by decide) (by decide) Rd.nil (Nat.zero_le _)).mono ?_
  rintro e w12 ⟨rfl, hb12⟩
  have HB12 := Lib.hid (HB11.out.trans hb12)
  clear HB11 hb12
  go_wp2_with fail
  go_ret
  exact ⟨rfl, HB12.out⟩
end Go.Proofs.Ytmegpmkjhbihaaa
