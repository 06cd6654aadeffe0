/- awake of layer 2: the calls whose answers the document fixes. -/
import Derived.Test.YthhlgjedgbdgcaaWThIO
namespace Go.Proofs.Ythhlgjedgbdgcaa
open Go.RowKit

/-- A new block of cells. -/
theorem Rd.fresh (w : World) (cs : Array Value) (t : TypeId) (xs : List Value) (g B : Nat) (hg : g = w.heap.size) (hB : g < B) (h : cs.toList = xs) : Rd (w.alloc (.cells cs t)) B (some ⟨g, 0, none⟩) xs := by
  intro _
  subst hg
  refine ⟨w.heap.size, 0, rfl, hB, fun j u hu => ?_⟩
  rw [Nat.zero_add, cell_of_row _ _ j _ _ _ (heap_alloc_new w (.cells cs t)), ← Array.getElem?_toList, h]
  exact hu

theorem aw_write : ([] ++ Wr.wnums [300, 1]) ++ Wr.wbool true = [2, 172, 2, 1, 1] := by decide
theorem aw_nums : Wr.nums ⟨[2, 172, 2, 1, 1], 0⟩ 2 300 = ([300, 1], ⟨[1], 0⟩) := rfl
theorem aw_bool : Wr.num ⟨[1], 0⟩ 1 = (1, ⟨[], 0⟩) := rfl
theorem aw_fin : Wr.fin ⟨[], 0⟩ = 0 := rfl
theorem aw_num : Wr.num ⟨[], 0⟩ 9 = (0, ⟨[], 3⟩) := rfl
theorem aw_end : Wr.fin ⟨[], 3⟩ = 3 := rfl

set_option maxRecDepth 100000 in
set_option maxHeartbeats 1000000 in
theorem awake_any (w : World) : Calls Try.prog 7 #[] w fun e w' => e = .returned (.bool true) ∧ Bl w w' := by
  have HW0 := Lib.hid ((Wtr.new w).alloc (.cells #[.int .i64 300, .int .i64 1] 3))
  have HX0 : Hid (Rd ((w.alloc (.cells #[.slice none 0 0] 28)).alloc (.cells #[.int .i64 300, .int .i64 1] 3)) (w.heap.size + 2) (some ⟨w.heap.size + 1, 0, none⟩) (ins [300, 1])) := Rd.fresh _ _ _ _ _ _ (by simp) (by omega) rfl
  go_enter Try.func7, Try.ntmps7
  go_wp2_with fail
  refine (wnums_any (some ⟨w.heap.size + 1, 0, none⟩) 2 2 [300, 1] [] _ w.heap.size _ (w.heap.size + 2) HW0.out rfl (by decide) HX0.out (by simp) (fun b off e _ hs => by injection e with e; injection e with e; omega) (by decide) (by decide)).mono ?_
  rintro e w1 ⟨rfl, S1, hw1, hf1, hs1⟩
  have HB1 : Hid (Bl w w1) := (((Bl.refl w).alloc _).alloc _).fr hf1 fun i hi h => by omega
  have HS1 : Hid (∀ k, S1 k → w.heap.size ≤ k) := fun k hk => by
    rcases hs1 k hk with h | h
    · omega
    · simp at h; omega
  have HW1 := Lib.hid hw1
  clear hw1 hf1 hs1
  go_wp2_with fail
  refine (wbool_any true _ S1 _ _ HW1.out (by decide)).mono ?_
  rintro e w2 ⟨rfl, S2, hw2, hf2, hs2⟩
  have HB2 : Hid (Bl w w2) := HB1.out.fr hf2 fun i hi h => by have := HS1.out i h; omega
  rw [aw_write] at hw2
  have HW2 := Lib.hid hw2
  clear hw2 hf2 hs2
  go_wp2_with fail
  refine (wbytes_any [2, 172, 2, 1, 1] S2 _ _ HW2.out (by decide)).mono ?_
  rintro e w3 ⟨A3, n3, c3, rfl, hn3, hc3, hown3, hb3⟩
  have HB3 : Hid (Bl w w3) := HB2.out.trans hb3
  have HO3 := Lib.hid hown3
  obtain rfl : n3 = 5 := hn3
  clear hown3 hb3
  go_wp2_with fail
  refine (new_any A3 5 c3 [2, 172, 2, 1, 1] _ w3.heap.size rfl (by decide) (Rd.own HO3.out) (by decide)).mono ?_
  rintro e w4 ⟨g4, rfl, hg4, hr4, hb4⟩
  have HB4 : Hid (Bl w w4) := HB3.out.trans hb4
  have HO4 := Lib.hid (own_bl HO3.out hb4)
  have HR4 := Lib.hid hr4
  clear hr4 hb4
  go_wp2_with fail
  refine (nums_any g4 g4 _ 2 300 _ HR4.out (by decide) (by decide)).mono ?_
  rw [aw_nums]
  rintro e w5 ⟨v5, rfl, ho5, hr5, hf5⟩
  obtain ⟨A5, c5, hv5, _⟩ := own_slice ho5
  subst hv5
  have hw0 : w.heap.size ≤ g4 := Nat.le_trans HB3.out.size hg4
  have HB5 : Hid (Bl w w5) := HB4.out.fr hf5 fun i hi h => by omega
  have HO5 := Lib.hid ho5
  have HR5 := Lib.hid hr5
  have HY5 := Lib.hid (own_fr HO4.out hf5 fun k hk e => HR4.out.row HO4.out (by decide) (by rw [hk, e]))
  clear ho5 hr5 hf5
  go_wp2_with fail
  refine (left_any g4 g4 _ _ HR5.out).mono ?_
  rintro e w' ⟨rfl, rfl⟩
  go_wp2_with fail
  refine (bool_any g4 g4 _ _ HR5.out).mono ?_
  rw [aw_bool]
  rintro e w6 ⟨rfl, hr6, hf6⟩
  have HB6 : Hid (Bl w w6) := HB5.out.fr hf6 fun i hi h => by omega
  have HO6 := Lib.hid (own_fr HO5.out hf6 fun k hk e => HR5.out.row HO5.out (by decide) (by rw [hk, e]))
  have HY6 := Lib.hid (own_fr HY5.out hf6 fun k hk e => HR5.out.row HY5.out (by decide) (by rw [hk, e]))
  have HR6 := Lib.hid hr6
  clear hr6 hf6
  go_wp2_with fail
  refine (end_any g4 g4 _ _ HR6.out).mono ?_
  rintro e w' ⟨rfl, rfl⟩
  rw [aw_fin]
  go_wp2_with fail
  refine (num_any g4 g4 _ 9 _ HR6.out (by decide)).mono ?_
  rw [aw_num]
  rintro e w7 ⟨rfl, hr7, hf7⟩
  have HB7 : Hid (Bl w w7) := HB6.out.fr hf7 fun i hi h => by omega
  have HO7 := Lib.hid (own_fr HO6.out hf7 fun k hk e => HR6.out.row HO6.out (by decide) (by rw [hk, e]))
  have HY7 := Lib.hid (own_fr HY6.out hf7 fun k hk e => HR6.out.row HY6.out (by decide) (by rw [hk, e]))
  have HR7 := Lib.hid hr7
  clear hr7 hf7
  go_wp2_with fail
  refine (same_any _ _ 5 5 _ _ [2, 172, 2, 1, 1] [2, 172, 2, 1, 1] _ (w7.heap.size + 1) rfl rfl (by decide) (by exact ((Rd.own HY7.out).alloc (Nat.le_refl _) _).more (by omega)) (by exact Rd.fresh _ _ _ _ _ _ rfl (by omega) rfl)).mono ?_
  rintro e w' ⟨rfl, q, rfl⟩
  rw [show decide (([2, 172, 2, 1, 1] : List Nat) = [2, 172, 2, 1, 1]) = true by decide]
  go_wp2_with fail
  refine (isame_any _ _ 2 2 _ _ [300, 1] [300, 1] _ (w7.heap.size + 2) rfl rfl (by decide) (by exact (((Rd.own HO7.out).alloc (Nat.le_refl _) _).alloc (by simp) _).more (by omega)) (by exact Rd.fresh _ _ _ _ _ _ (by simp) (by omega) rfl)).mono ?_
  rintro e w' ⟨rfl, q2, rfl⟩
  rw [show decide (([300, 1] : List Int) = [300, 1]) = true by decide]
  go_wp2_with fail
  refine (end_any g4 g4 _ _ (by exact (((HR7.out.alloc _).drewN q).alloc _).drewN q2)).mono ?_
  rintro e w' ⟨rfl, rfl⟩
  rw [aw_end]
  go_wp2_with fail
  go_ret
  exact ⟨rfl, (((HB7.out.alloc _).drewN _).alloc _).drewN _⟩
end Go.Proofs.Ythhlgjedgbdgcaa
