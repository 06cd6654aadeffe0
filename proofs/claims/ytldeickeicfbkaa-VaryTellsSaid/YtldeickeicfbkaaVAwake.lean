/- awake of layer 1: the calls whose answers the document fixes. -/
import Derived.Test.YtldeickeicfbkaaVTake
import Derived.Test.YtldeickeicfbkaaVSame
import Derived.Test.YtldeickeicfbkaaVPut
namespace Go.Proofs.Ytldeickeicfbkaa
open Go.RowKit

/-- A new block of bytes. -/
theorem Rd.new (w : World) (cs : Array Value) (t : TypeId) (l : List Nat) (g B : Nat) (hg : g = w.heap.size) (hB : g < B) (h : cs.toList = bys l) : Rd (w.alloc (.cells cs t)) B (some ⟨g, 0, none⟩) (bys l) := by
  intro _
  subst hg
  refine ⟨w.heap.size, 0, rfl, hB, fun j u hu => ?_⟩
  rw [Nat.zero_add, cell_of_row _ _ j _ _ _ (heap_alloc_new w (.cells cs t)), ← Array.getElem?_toList, h]
  exact hu

set_option maxRecDepth 100000 in
set_option maxHeartbeats 400000 in
theorem awake_any (w : World) : Calls Try.prog 6 #[] w fun e w' => e = .returned (.bool true) ∧ Below w.heap.size w w' := by
  go_enter Try.func6, Try.ntmps6
  go_wp2_with fail
  refine (take_any _ 3 3 [172, 2, 9] _ _ (by decide) (by decide) (by exact Rd.new _ _ _ _ _ _ (by simp) (Nat.lt_succ_self _) rfl) (by decide)).mono ?_
  rintro e w' ⟨rfl, rfl⟩
  rw [show Vy.dec [172, 2, 9] = (300, 2, 0) by decide]
  go_wp2_with fail
  refine (take_any _ 1 1 [128] _ _ (by decide) (by decide) (by exact Rd.new _ _ _ _ _ _ (by simp) (Nat.lt_succ_self _) rfl) (by decide)).mono ?_
  rintro e w' ⟨rfl, rfl⟩
  rw [show Vy.dec [128] = (0, 0, 3) by decide]
  go_wp2_with fail
  refine (take_any _ 2 2 [128, 0] _ _ (by decide) (by decide) (by exact Rd.new _ _ _ _ _ _ (by simp) (Nat.lt_succ_self _) rfl) (by decide)).mono ?_
  rintro e w' ⟨rfl, rfl⟩
  rw [show Vy.dec [128, 0] = (0, 0, 2) by decide]
  go_wp2_with fail
  refine (put_any 300 _ (by decide)).mono ?_
  rintro e w1 ⟨A, n, c, rfl, hn, hc, hown, hb⟩
  rw [show Vy.enc 300 = [172, 2] by decide] at hn hown
  have hn2 : n ≤ 2 := by rw [hn]; decide
  have HN := Lib.hid hn; clear hn
  have HW := Lib.hid hown; clear hown
  have HB := Lib.hid hb; clear hb
  go_wp2_with fail
  refine (same_any _ _ n 2 _ _ [172, 2] [172, 2] _ (w1.heap.size + 1) HN.out rfl (by omega) (by exact ((Rd.own HW.out).alloc (Nat.le_refl _) _).more (by omega)) (by exact Rd.new _ _ _ _ _ _ rfl (by omega) rfl)).mono ?_
  rintro e w' ⟨rfl, q, rfl⟩
  rw [show decide ([172, 2] = [172, 2]) = true by decide]
  go_wp2_with fail
  refine (put_any 0 _ (by decide)).mono ?_
  rintro e w2 ⟨A2, n2, c2, rfl, hn, hc2, hown, hb⟩
  rw [show Vy.enc 0 = [0] by decide] at hn hown
  have hn22 : n2 ≤ 1 := by rw [hn]; decide
  have HN2 := Lib.hid hn; clear hn
  have HW2 := Lib.hid hown; clear hown
  have HB2 := Lib.hid hb; clear hb
  go_wp2_with fail
  refine (same_any _ _ n2 1 _ _ [0] [0] _ (w2.heap.size + 1) HN2.out rfl (by omega) (by exact ((Rd.own HW2.out).alloc (Nat.le_refl _) _).more (by omega)) (by exact Rd.new _ _ _ _ _ _ rfl (by omega) rfl)).mono ?_
  rintro e w' ⟨rfl, q2, rfl⟩
  rw [show decide ([0] = [0]) = true by decide]
  go_wp2_with fail
  go_ret
  exact ⟨rfl, (((((((((Bl.refl w).alloc _).alloc _).alloc _).trans HB.out).alloc _).drewN q).trans HB2.out).alloc _).drewN q2⟩
end Go.Proofs.Ytldeickeicfbkaa
