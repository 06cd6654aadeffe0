/- The follow laws' awake: the calls whose answers the document fixes. -/
import Derived.Test.YtgmnokmchjeflaaFoFollow
import Derived.Test.YtgmnokmchjeflaaUSame
namespace Go.Proofs.Ytgmnokmchjeflaa
open Go.RowKit

/-- awake's grammar. -/
def pf12 : List Gr.Pr := [⟨0, [⟨true, 1⟩, ⟨false, 1⟩]⟩, ⟨1, [⟨false, 0⟩]⟩]
theorem rf12_is : followsOf ⟨2, 2, 0, pf12⟩ = [65536, 2] := by kernel_rfl

theorem prf12 (w : World) : PrsC ((((w.alloc (.cells #[.bool true, .int .i64 1, .bool false, .int .i64 1] 39)).alloc (.cells #[.bool false, .int .i64 0] 39)).alloc (.cells #[.int .i64 0, .slice (some ⟨w.heap.size, 0, none⟩) 2 2, .int .i64 1, .slice (some ⟨w.heap.size + 1, 0, none⟩) 1 1] 37)).alloc (.cells #[.int .i64 2, .int .i64 2, .int .i64 0, .slice (some ⟨w.heap.size + 1 + 1, 0, none⟩) 2 2] 24)) ((((w.alloc (.cells #[.bool true, .int .i64 1, .bool false, .int .i64 1] 39)).alloc (.cells #[.bool false, .int .i64 0] 39)).alloc (.cells #[.int .i64 0, .slice (some ⟨w.heap.size, 0, none⟩) 2 2, .int .i64 1, .slice (some ⟨w.heap.size + 1, 0, none⟩) 1 1] 37)).alloc (.cells #[.int .i64 2, .int .i64 2, .int .i64 0, .slice (some ⟨w.heap.size + 1 + 1, 0, none⟩) 2 2] 24)).heap.size (some ⟨w.heap.size + 1 + 1, 0, none⟩) pf12 := by
  refine PrsC.more (B := (((w.alloc (.cells #[.bool true, .int .i64 1, .bool false, .int .i64 1] 39)).alloc (.cells #[.bool false, .int .i64 0] 39)).alloc (.cells #[.int .i64 0, .slice (some ⟨w.heap.size, 0, none⟩) 2 2, .int .i64 1, .slice (some ⟨w.heap.size + 1, 0, none⟩) 1 1] 37)).heap.size) (PrsC.alloc ?_ (Nat.le_refl _) _) (by simp)
  refine ⟨[⟨0, [⟨true, 1⟩, ⟨false, 1⟩], some ⟨w.heap.size, 0, none⟩, 2⟩, ⟨1, [⟨false, 0⟩], some ⟨w.heap.size + 1, 0, none⟩, 1⟩], rfl, ?_, ?_⟩
  · exact rd_lit _ _ _ _ _ _ (by simp) (by simp) rfl
  · intro h hh
    simp only [List.mem_cons, List.not_mem_nil, or_false] at hh
    rcases hh with rfl | rfl
    · have h1 : Rd (w.alloc (.cells #[.bool true, .int .i64 1, .bool false, .int .i64 1] 39)) (w.alloc (.cells #[.bool true, .int .i64 1, .bool false, .int .i64 1] 39)).heap.size (some ⟨w.heap.size, 0, none⟩) (syRow [⟨true, 1⟩, ⟨false, 1⟩]) := rd_lit _ _ _ _ _ _ (by simp) (by simp) rfl
      exact ⟨rd_on h1 (((Bl.refl _).alloc _).alloc _), (show (2 : Nat) ≤ 2 from Nat.le_refl _), (show (2 : Nat) ≤ maxLen by simp only [maxLen]; omega)⟩
    · have h1 : Rd ((w.alloc (.cells #[.bool true, .int .i64 1, .bool false, .int .i64 1] 39)).alloc (.cells #[.bool false, .int .i64 0] 39)) ((w.alloc (.cells #[.bool true, .int .i64 1, .bool false, .int .i64 1] 39)).alloc (.cells #[.bool false, .int .i64 0] 39)).heap.size (some ⟨w.heap.size + 1, 0, none⟩) (syRow [⟨false, 0⟩]) := rd_lit _ _ _ _ _ _ (by simp) (by simp) rfl
      exact ⟨rd_on h1 ((Bl.refl _).alloc _), (show (1 : Nat) ≤ 1 from Nat.le_refl _), (show (1 : Nat) ≤ maxLen by simp only [maxLen]; omega)⟩

set_option maxRecDepth 100000 in
set_option maxHeartbeats 4000000 in
theorem awake12_any (w : World) : Calls Try.prog 6 #[] w fun e w' => e = .returned (.bool true) ∧ Bl w w' := by
  have HB4 : Hid (Bl w ((((w.alloc (.cells #[.bool true, .int .i64 1, .bool false, .int .i64 1] 39)).alloc (.cells #[.bool false, .int .i64 0] 39)).alloc (.cells #[.int .i64 0, .slice (some ⟨w.heap.size, 0, none⟩) 2 2, .int .i64 1, .slice (some ⟨w.heap.size + 1, 0, none⟩) 1 1] 37)).alloc (.cells #[.int .i64 2, .int .i64 2, .int .i64 0, .slice (some ⟨w.heap.size + 1 + 1, 0, none⟩) 2 2] 24))) := ((((Bl.refl w).alloc _).alloc _).alloc _).alloc _
  have HP4 := Lib.hid (prf12 w)
  go_enter Try.func6, Try.ntmps6
  go_wp2_with fail
  generalize hw4 : ((((w.alloc (.cells #[.bool true, .int .i64 1, .bool false, .int .i64 1] 39)).alloc (.cells #[.bool false, .int .i64 0] 39)).alloc (.cells #[.int .i64 0, .slice (some ⟨w.heap.size, 0, none⟩) 2 2, .int .i64 1, .slice (some ⟨w.heap.size + 1, 0, none⟩) 1 1] 37)).alloc (.cells #[.int .i64 2, .int .i64 2, .int .i64 0, .slice (some ⟨w.heap.size + 1 + 1, 0, none⟩) 2 2] 24)) = w4 at HB4 HP4 ⊢
  have HW4 := Lib.hid hw4; clear hw4
  refine (follow_any 2 2 0 (some ⟨w.heap.size + 1 + 1, 0, none⟩) 2 2 pf12 _ w4.heap.size rfl (by decide) HP4.out (Nat.le_refl _)).mono ?_
  intro e v3 h3
  obtain ⟨A3, c3, he3, hr3, hb3⟩ := h3.lit rf12_is (k := 2) rfl
  subst he3
  have HN3 := Lib.hid hr3
  have HB3 := Lib.hid (HB4.out.trans hb3)
  clear h3 hr3 hb3
  have HL3 : Hid (Rd (v3.alloc (.cells #[.int .u32 65536, .int .u32 2] 33)) (v3.alloc (.cells #[.int .u32 65536, .int .u32 2] 33)).heap.size (some ⟨v3.heap.size, 0, none⟩) (us [65536, 2])) := rd_lit _ _ _ _ _ _ rfl (by rw [World.size_alloc]; omega) rfl
  have HN4 := Lib.hid ((HN3.out.alloc (Nat.le_refl _) (.cells #[.int .u32 65536, .int .u32 2] 33)).more (B' := (v3.alloc (.cells #[.int .u32 65536, .int .u32 2] 33)).heap.size) (by simp))
  have HA3 : Hid (Bl v3 (v3.alloc (.cells #[.int .u32 65536, .int .u32 2] 33))) := (Bl.refl v3).alloc _
  go_wp2_with fail
  refine (usame_any A3 _ 2 2 c3 2 [65536, 2] [65536, 2] _ (v3.alloc (.cells #[.int .u32 65536, .int .u32 2] 33)).heap.size rfl rfl (by decide) HN4.out HL3.out).mono ?_
  rintro e v4 ⟨rfl, hb4⟩
  rw [decide_eq_true rfl]
  have HB5 := Lib.hid (HB3.out.trans (HA3.out.trans hb4))
  clear hb4
  go_wp2_with fail
  go_ret
  exact ⟨rfl, HB5.out⟩
end Go.Proofs.Ytgmnokmchjeflaa
