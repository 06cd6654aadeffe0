/- The first laws' awake: the calls whose answers the document fixes. -/
import Derived.Test.YtebjbahbaiialaaFLit
import Derived.Test.YtebjbahbaiialaaUSame
namespace Go.Proofs.Ytebjbahbaiialaa
open Go.RowKit

theorem prf3 (w : World) : Prs ((((w.alloc (.cells #[.bool true, .int .i64 1, .bool false, .int .i64 1] 55)).alloc (.cells #[.bool false, .int .i64 0] 55)).alloc (.cells #[.int .i64 0, .slice (some ⟨w.heap.size, 0, none⟩) 2 2, .int .i64 1, .slice (some ⟨w.heap.size + 1, 0, none⟩) 1 1, .int .i64 1, .slice none 0 0] 53)).alloc (.cells #[.int .i64 2, .int .i64 2, .int .i64 0, .slice (some ⟨w.heap.size + 1 + 1, 0, none⟩) 3 3] 24)) ((((w.alloc (.cells #[.bool true, .int .i64 1, .bool false, .int .i64 1] 55)).alloc (.cells #[.bool false, .int .i64 0] 55)).alloc (.cells #[.int .i64 0, .slice (some ⟨w.heap.size, 0, none⟩) 2 2, .int .i64 1, .slice (some ⟨w.heap.size + 1, 0, none⟩) 1 1, .int .i64 1, .slice none 0 0] 53)).alloc (.cells #[.int .i64 2, .int .i64 2, .int .i64 0, .slice (some ⟨w.heap.size + 1 + 1, 0, none⟩) 3 3] 24)).heap.size (some ⟨w.heap.size + 1 + 1, 0, none⟩) pf3 := by
  refine Prs.more (B := (((w.alloc (.cells #[.bool true, .int .i64 1, .bool false, .int .i64 1] 55)).alloc (.cells #[.bool false, .int .i64 0] 55)).alloc (.cells #[.int .i64 0, .slice (some ⟨w.heap.size, 0, none⟩) 2 2, .int .i64 1, .slice (some ⟨w.heap.size + 1, 0, none⟩) 1 1, .int .i64 1, .slice none 0 0] 53)).heap.size) (Prs.alloc ?_ (Nat.le_refl _) _) (by simp)
  refine ⟨[⟨0, [⟨true, 1⟩, ⟨false, 1⟩], some ⟨w.heap.size, 0, none⟩, 2⟩, ⟨1, [⟨false, 0⟩], some ⟨w.heap.size + 1, 0, none⟩, 1⟩, ⟨1, [], none, 0⟩], rfl, ?_, ?_⟩
  · exact rd_lit _ _ _ _ _ _ (by simp) (by simp) rfl
  · intro h hh
    simp only [List.mem_cons, List.not_mem_nil, or_false] at hh
    rcases hh with rfl | rfl | rfl
    · have h1 : Rd (w.alloc (.cells #[.bool true, .int .i64 1, .bool false, .int .i64 1] 55)) (w.alloc (.cells #[.bool true, .int .i64 1, .bool false, .int .i64 1] 55)).heap.size (some ⟨w.heap.size, 0, none⟩) (syRow [⟨true, 1⟩, ⟨false, 1⟩]) := rd_lit _ _ _ _ _ _ (by simp) (by simp) rfl
      exact rd_on h1 (((Bl.refl _).alloc _).alloc _)
    · have h1 : Rd ((w.alloc (.cells #[.bool true, .int .i64 1, .bool false, .int .i64 1] 55)).alloc (.cells #[.bool false, .int .i64 0] 55)) ((w.alloc (.cells #[.bool true, .int .i64 1, .bool false, .int .i64 1] 55)).alloc (.cells #[.bool false, .int .i64 0] 55)).heap.size (some ⟨w.heap.size + 1, 0, none⟩) (syRow [⟨false, 0⟩]) := rd_lit _ _ _ _ _ _ (by simp) (by simp) rfl
      exact rd_on h1 ((Bl.refl _).alloc _)
    · exact Rd.nil

set_option maxRecDepth 100000 in
set_option maxHeartbeats 4000000 in
theorem awake11_any (w : World) : Calls Try.prog 6 #[] w fun e w' => e = .returned (.bool true) ∧ Bl w w' := by
  have HB4 : Hid (Bl w ((((w.alloc (.cells #[.bool true, .int .i64 1, .bool false, .int .i64 1] 55)).alloc (.cells #[.bool false, .int .i64 0] 55)).alloc (.cells #[.int .i64 0, .slice (some ⟨w.heap.size, 0, none⟩) 2 2, .int .i64 1, .slice (some ⟨w.heap.size + 1, 0, none⟩) 1 1, .int .i64 1, .slice none 0 0] 53)).alloc (.cells #[.int .i64 2, .int .i64 2, .int .i64 0, .slice (some ⟨w.heap.size + 1 + 1, 0, none⟩) 3 3] 24))) := ((((Bl.refl w).alloc _).alloc _).alloc _).alloc _
  have HK4 : Hid (Bk ((((w.alloc (.cells #[.bool true, .int .i64 1, .bool false, .int .i64 1] 55)).alloc (.cells #[.bool false, .int .i64 0] 55)).alloc (.cells #[.int .i64 0, .slice (some ⟨w.heap.size, 0, none⟩) 2 2, .int .i64 1, .slice (some ⟨w.heap.size + 1, 0, none⟩) 1 1, .int .i64 1, .slice none 0 0] 53)).alloc (.cells #[.int .i64 2, .int .i64 2, .int .i64 0, .slice (some ⟨w.heap.size + 1 + 1, 0, none⟩) 3 3] 24)) (w.heap.size + 1 + 1 + 1) 24 #[.int .i64 2, .int .i64 2, .int .i64 0, .slice (some ⟨w.heap.size + 1 + 1, 0, none⟩) 3 3]) := by
    have h := Bk.new (((w.alloc (.cells #[.bool true, .int .i64 1, .bool false, .int .i64 1] 55)).alloc (.cells #[.bool false, .int .i64 0] 55)).alloc (.cells #[.int .i64 0, .slice (some ⟨w.heap.size, 0, none⟩) 2 2, .int .i64 1, .slice (some ⟨w.heap.size + 1, 0, none⟩) 1 1, .int .i64 1, .slice none 0 0] 53)) 24 #[.int .i64 2, .int .i64 2, .int .i64 0, .slice (some ⟨w.heap.size + 1 + 1, 0, none⟩) 3 3]
    simp only [World.size_alloc] at h
    exact h
  have HP4 := Lib.hid (prf3 w)
  have hsz : ((((w.alloc (.cells #[.bool true, .int .i64 1, .bool false, .int .i64 1] 55)).alloc (.cells #[.bool false, .int .i64 0] 55)).alloc (.cells #[.int .i64 0, .slice (some ⟨w.heap.size, 0, none⟩) 2 2, .int .i64 1, .slice (some ⟨w.heap.size + 1, 0, none⟩) 1 1, .int .i64 1, .slice none 0 0] 53)).alloc (.cells #[.int .i64 2, .int .i64 2, .int .i64 0, .slice (some ⟨w.heap.size + 1 + 1, 0, none⟩) 3 3] 24)).heap.size = w.heap.size + 1 + 1 + 1 + 1 := by simp
  go_enter Try.func6, Try.ntmps6
  go_wp2_with fail
  generalize hw4 : ((((w.alloc (.cells #[.bool true, .int .i64 1, .bool false, .int .i64 1] 55)).alloc (.cells #[.bool false, .int .i64 0] 55)).alloc (.cells #[.int .i64 0, .slice (some ⟨w.heap.size, 0, none⟩) 2 2, .int .i64 1, .slice (some ⟨w.heap.size + 1, 0, none⟩) 1 1, .int .i64 1, .slice none 0 0] 53)).alloc (.cells #[.int .i64 2, .int .i64 2, .int .i64 0, .slice (some ⟨w.heap.size + 1 + 1, 0, none⟩) 3 3] 24)) = w4 at HB4 HK4 HP4 hsz ⊢
  have HW4 := Lib.hid hw4; clear hw4
  have HSz := Lib.hid hsz; clear hsz
  have HPx : Hid (∀ W : World, Bl w4 W → Prs W W.heap.size (some ⟨w.heap.size + 1 + 1, 0, none⟩) pf3) := fun W hb => (HP4.out.bl (Nat.le_refl _) hb).more hb.size
  have HL1 : Hid (Rd (w4.alloc (.cells #[.bool true, .int .i64 1] 55)) (w4.alloc (.cells #[.bool true, .int .i64 1] 55)).heap.size (some ⟨w.heap.size + 1 + 1 + 1 + 1, 0, none⟩) (syRow [⟨true, 1⟩])) := rd_lit _ _ _ _ _ _ HSz.out.symm (by rw [World.size_alloc, HSz.out]; omega) rfl
  have HA1 : Hid (Bl w4 (w4.alloc (.cells #[.bool true, .int .i64 1] 55))) := (Bl.refl w4).alloc _
  refine (fof_any 2 2 0 (some ⟨w.heap.size + 1 + 1, 0, none⟩) 3 3 pf3 _ 1 1 [⟨true, 1⟩] _ (w4.alloc (.cells #[.bool true, .int .i64 1] 55)).heap.size rfl (by decide) (HPx.out _ HA1.out) rfl (by decide) HL1.out (Nat.le_refl _)).mono ?_
  rintro e v1 ⟨rfl, hb1⟩
  rw [rf3_n1, rf3_a1]
  have HB1 := Lib.hid (HA1.out.trans hb1)
  have HK1 := Lib.hid (HK4.out.bl HB1.out)
  clear hb1
  have k0 : v1.cell? ⟨w.heap.size + 1 + 1 + 1, 0, none⟩ = some (.int .i64 2) := HK1.out.cell 0
  have k1 : v1.cell? ⟨w.heap.size + 1 + 1 + 1, 1, none⟩ = some (.int .i64 2) := HK1.out.cell 1
  have k2 : v1.cell? ⟨w.heap.size + 1 + 1 + 1, 2, none⟩ = some (.int .i64 0) := HK1.out.cell 2
  have k3 : v1.cell? ⟨w.heap.size + 1 + 1 + 1, 3, none⟩ = some (.slice (some ⟨w.heap.size + 1 + 1, 0, none⟩) 3 3) := HK1.out.cell 3
  have HL2 : Hid (Rd (v1.alloc (.cells #[.bool true, .int .i64 1, .bool false, .int .i64 1] 55)) (v1.alloc (.cells #[.bool true, .int .i64 1, .bool false, .int .i64 1] 55)).heap.size (some ⟨v1.heap.size, 0, none⟩) (syRow [⟨true, 1⟩, ⟨false, 1⟩])) := rd_lit _ _ _ _ _ _ rfl (by rw [World.size_alloc]; omega) rfl
  have HA2 : Hid (Bl v1 (v1.alloc (.cells #[.bool true, .int .i64 1, .bool false, .int .i64 1] 55))) := (Bl.refl v1).alloc _
  have klt : w.heap.size + 1 + 1 + 1 < v1.heap.size := HK1.out.lt
  go_wp2_with fail
  refine (fof_any 2 2 0 (some ⟨w.heap.size + 1 + 1, 0, none⟩) 3 3 pf3 _ 2 2 [⟨true, 1⟩, ⟨false, 1⟩] _ (v1.alloc (.cells #[.bool true, .int .i64 1, .bool false, .int .i64 1] 55)).heap.size rfl (by decide) (HPx.out _ (HB1.out.trans HA2.out)) rfl (by decide) HL2.out (Nat.le_refl _)).mono ?_
  rintro e v2 ⟨rfl, hb2⟩
  rw [rf3_n2, rf3_a2]
  have HB2 := Lib.hid (HB1.out.trans (HA2.out.trans hb2))
  have HK2 := Lib.hid (HK4.out.bl HB2.out)
  clear hb2 k0 k1 k2 k3 klt
  have k0 : v2.cell? ⟨w.heap.size + 1 + 1 + 1, 0, none⟩ = some (.int .i64 2) := HK2.out.cell 0
  have k1 : v2.cell? ⟨w.heap.size + 1 + 1 + 1, 1, none⟩ = some (.int .i64 2) := HK2.out.cell 1
  have k2 : v2.cell? ⟨w.heap.size + 1 + 1 + 1, 2, none⟩ = some (.int .i64 0) := HK2.out.cell 2
  have k3 : v2.cell? ⟨w.heap.size + 1 + 1 + 1, 3, none⟩ = some (.slice (some ⟨w.heap.size + 1 + 1, 0, none⟩) 3 3) := HK2.out.cell 3
  go_wp2_with fail
  refine (first_any 2 2 0 (some ⟨w.heap.size + 1 + 1, 0, none⟩) 3 3 pf3 v2 v2.heap.size rfl (by decide) (HPx.out _ HB2.out) (Nat.le_refl _)).mono ?_
  intro e v3 h3
  obtain ⟨A3, c3, he3, hr3, hb3⟩ := h3.lit rf3_is (k := 2) rfl
  subst he3
  have HN3 := Lib.hid hr3
  have HB3 := Lib.hid (HB2.out.trans hb3)
  clear h3 hr3 hb3 k0 k1 k2 k3
  have HL3 : Hid (Rd (v3.alloc (.cells #[.int .u32 3, .int .u32 1] 28)) (v3.alloc (.cells #[.int .u32 3, .int .u32 1] 28)).heap.size (some ⟨v3.heap.size, 0, none⟩) (us [3, 1])) := rd_lit _ _ _ _ _ _ rfl (by rw [World.size_alloc]; omega) rfl
  have HN4 := Lib.hid ((HN3.out.alloc (Nat.le_refl _) (.cells #[.int .u32 3, .int .u32 1] 28)).more (B' := (v3.alloc (.cells #[.int .u32 3, .int .u32 1] 28)).heap.size) (by simp))
  have HA3 : Hid (Bl v3 (v3.alloc (.cells #[.int .u32 3, .int .u32 1] 28))) := (Bl.refl v3).alloc _
  go_wp2_with fail
  refine (usame_any A3 _ 2 2 c3 2 [3, 1] [3, 1] _ (v3.alloc (.cells #[.int .u32 3, .int .u32 1] 28)).heap.size rfl rfl (by decide) HN4.out HL3.out).mono ?_
  rintro e v4 ⟨rfl, hb4⟩
  rw [decide_eq_true rfl]
  have HB5 := Lib.hid (HB3.out.trans (HA3.out.trans hb4))
  clear hb4
  go_wp2_with fail
  go_ret
  exact ⟨rfl, HB4.out.trans HB5.out⟩
end Go.Proofs.Ytebjbahbaiialaa
