/- The reach laws' awake: the calls whose answers the document fixes. -/
import Derived.Test.YthjaidaibpdamaaEReach
import Derived.Test.YthjaidaibpdamaaEShow
import Derived.Test.YthjaidaibpdamaaKRSame
import Derived.Test.YthjaidaibpdamaaGRRight
import Derived.Test.YthjaidaibpdamaaKLarge
namespace Go.Proofs.Ythjaidaibpdamaa
open Go.RowKit

/-- awake's grammar. -/
def pe3 : List Gr.Pr := [⟨0, [⟨true, 1⟩]⟩, ⟨1, [⟨false, 0⟩, ⟨true, 0⟩]⟩, ⟨2, [⟨true, 0⟩]⟩]
def re3 : List Fc := [⟨1, 0⟩, ⟨2, 0⟩, ⟨0, 0⟩]
def ze3 : List Fc := [⟨0, 0⟩, ⟨0, 0⟩, ⟨0, 0⟩]
def no3 : List Fc := [⟨1, 0⟩, ⟨0, 0⟩, ⟨2, 2⟩]
theorem re3_is : reachOf ⟨1, 3, 0, pe3⟩ = re3 := by decide
theorem eshows3 : eshowsB ⟨1, 3, 0, pe3⟩ re3 = true := by decide
theorem eshows3z : eshowsB ⟨1, 3, 0, pe3⟩ ze3 = false := by decide
theorem eshows3n : eshowsB ⟨1, 3, 0, pe3⟩ no3 = false := by decide

theorem pre3 (w : World) : Prs (((((w.alloc (.cells #[.bool true, .int .i64 1] 37)).alloc (.cells #[.bool false, .int .i64 0, .bool true, .int .i64 0] 37)).alloc (.cells #[.bool true, .int .i64 0] 37)).alloc (.cells #[.int .i64 0, .slice (some ⟨w.heap.size, 0, none⟩) 1 1, .int .i64 1, .slice (some ⟨w.heap.size + 1, 0, none⟩) 2 2, .int .i64 2, .slice (some ⟨w.heap.size + 1 + 1, 0, none⟩) 1 1] 35)).alloc (.cells #[.int .i64 1, .int .i64 3, .int .i64 0, .slice (some ⟨w.heap.size + 1 + 1 + 1, 0, none⟩) 3 3] 24)) (((((w.alloc (.cells #[.bool true, .int .i64 1] 37)).alloc (.cells #[.bool false, .int .i64 0, .bool true, .int .i64 0] 37)).alloc (.cells #[.bool true, .int .i64 0] 37)).alloc (.cells #[.int .i64 0, .slice (some ⟨w.heap.size, 0, none⟩) 1 1, .int .i64 1, .slice (some ⟨w.heap.size + 1, 0, none⟩) 2 2, .int .i64 2, .slice (some ⟨w.heap.size + 1 + 1, 0, none⟩) 1 1] 35)).alloc (.cells #[.int .i64 1, .int .i64 3, .int .i64 0, .slice (some ⟨w.heap.size + 1 + 1 + 1, 0, none⟩) 3 3] 24)).heap.size (some ⟨w.heap.size + 1 + 1 + 1, 0, none⟩) pe3 := by
  refine Prs.more (B := ((((w.alloc (.cells #[.bool true, .int .i64 1] 37)).alloc (.cells #[.bool false, .int .i64 0, .bool true, .int .i64 0] 37)).alloc (.cells #[.bool true, .int .i64 0] 37)).alloc (.cells #[.int .i64 0, .slice (some ⟨w.heap.size, 0, none⟩) 1 1, .int .i64 1, .slice (some ⟨w.heap.size + 1, 0, none⟩) 2 2, .int .i64 2, .slice (some ⟨w.heap.size + 1 + 1, 0, none⟩) 1 1] 35)).heap.size) (Prs.alloc ?_ (Nat.le_refl _) _) (by simp)
  refine ⟨[⟨0, [⟨true, 1⟩], some ⟨w.heap.size, 0, none⟩, 1⟩, ⟨1, [⟨false, 0⟩, ⟨true, 0⟩], some ⟨w.heap.size + 1, 0, none⟩, 2⟩, ⟨2, [⟨true, 0⟩], some ⟨w.heap.size + 1 + 1, 0, none⟩, 1⟩], rfl, ?_, ?_⟩
  · exact rd_lit _ _ _ _ _ _ (by simp) (by simp) rfl
  · intro h hh
    simp only [List.mem_cons, List.not_mem_nil, or_false] at hh
    rcases hh with rfl | rfl | rfl
    · have h1 : Rd (w.alloc (.cells #[.bool true, .int .i64 1] 37)) (w.alloc (.cells #[.bool true, .int .i64 1] 37)).heap.size (some ⟨w.heap.size, 0, none⟩) (syRow [⟨true, 1⟩]) := rd_lit _ _ _ _ _ _ (by simp) (by simp) rfl
      exact rd_on h1 ((((Bl.refl _).alloc _).alloc _).alloc _)
    · have h1 : Rd ((w.alloc (.cells #[.bool true, .int .i64 1] 37)).alloc (.cells #[.bool false, .int .i64 0, .bool true, .int .i64 0] 37)) ((w.alloc (.cells #[.bool true, .int .i64 1] 37)).alloc (.cells #[.bool false, .int .i64 0, .bool true, .int .i64 0] 37)).heap.size (some ⟨w.heap.size + 1, 0, none⟩) (syRow [⟨false, 0⟩, ⟨true, 0⟩]) := rd_lit _ _ _ _ _ _ (by simp) (by simp) rfl
      exact rd_on h1 (((Bl.refl _).alloc _).alloc _)
    · have h1 : Rd (((w.alloc (.cells #[.bool true, .int .i64 1] 37)).alloc (.cells #[.bool false, .int .i64 0, .bool true, .int .i64 0] 37)).alloc (.cells #[.bool true, .int .i64 0] 37)) (((w.alloc (.cells #[.bool true, .int .i64 1] 37)).alloc (.cells #[.bool false, .int .i64 0, .bool true, .int .i64 0] 37)).alloc (.cells #[.bool true, .int .i64 0] 37)).heap.size (some ⟨w.heap.size + 1 + 1, 0, none⟩) (syRow [⟨true, 0⟩]) := rd_lit _ _ _ _ _ _ (by simp) (by simp) rfl
      exact rd_on h1 ((Bl.refl _).alloc _)

set_option maxRecDepth 100000 in
set_option maxHeartbeats 4000000 in
theorem awake10_any (w : World) : Calls Try.prog 6 #[] w fun e w' => e = .returned (.bool true) ∧ Bl w w' := by
  have HB5 : Hid (Bl w (((((w.alloc (.cells #[.bool true, .int .i64 1] 37)).alloc (.cells #[.bool false, .int .i64 0, .bool true, .int .i64 0] 37)).alloc (.cells #[.bool true, .int .i64 0] 37)).alloc (.cells #[.int .i64 0, .slice (some ⟨w.heap.size, 0, none⟩) 1 1, .int .i64 1, .slice (some ⟨w.heap.size + 1, 0, none⟩) 2 2, .int .i64 2, .slice (some ⟨w.heap.size + 1 + 1, 0, none⟩) 1 1] 35)).alloc (.cells #[.int .i64 1, .int .i64 3, .int .i64 0, .slice (some ⟨w.heap.size + 1 + 1 + 1, 0, none⟩) 3 3] 24))) := (((((Bl.refl w).alloc _).alloc _).alloc _).alloc _).alloc _
  have HK5 : Hid (Bk (((((w.alloc (.cells #[.bool true, .int .i64 1] 37)).alloc (.cells #[.bool false, .int .i64 0, .bool true, .int .i64 0] 37)).alloc (.cells #[.bool true, .int .i64 0] 37)).alloc (.cells #[.int .i64 0, .slice (some ⟨w.heap.size, 0, none⟩) 1 1, .int .i64 1, .slice (some ⟨w.heap.size + 1, 0, none⟩) 2 2, .int .i64 2, .slice (some ⟨w.heap.size + 1 + 1, 0, none⟩) 1 1] 35)).alloc (.cells #[.int .i64 1, .int .i64 3, .int .i64 0, .slice (some ⟨w.heap.size + 1 + 1 + 1, 0, none⟩) 3 3] 24)) (w.heap.size + 1 + 1 + 1 + 1) 24 #[.int .i64 1, .int .i64 3, .int .i64 0, .slice (some ⟨w.heap.size + 1 + 1 + 1, 0, none⟩) 3 3]) := by
    have h := Bk.new ((((w.alloc (.cells #[.bool true, .int .i64 1] 37)).alloc (.cells #[.bool false, .int .i64 0, .bool true, .int .i64 0] 37)).alloc (.cells #[.bool true, .int .i64 0] 37)).alloc (.cells #[.int .i64 0, .slice (some ⟨w.heap.size, 0, none⟩) 1 1, .int .i64 1, .slice (some ⟨w.heap.size + 1, 0, none⟩) 2 2, .int .i64 2, .slice (some ⟨w.heap.size + 1 + 1, 0, none⟩) 1 1] 35)) 24 #[.int .i64 1, .int .i64 3, .int .i64 0, .slice (some ⟨w.heap.size + 1 + 1 + 1, 0, none⟩) 3 3]
    simp only [World.size_alloc] at h
    exact h
  have HP5 := Lib.hid (pre3 w)
  go_enter Try.func6, Try.ntmps6
  go_wp2_with fail
  generalize hw5 : (((((w.alloc (.cells #[.bool true, .int .i64 1] 37)).alloc (.cells #[.bool false, .int .i64 0, .bool true, .int .i64 0] 37)).alloc (.cells #[.bool true, .int .i64 0] 37)).alloc (.cells #[.int .i64 0, .slice (some ⟨w.heap.size, 0, none⟩) 1 1, .int .i64 1, .slice (some ⟨w.heap.size + 1, 0, none⟩) 2 2, .int .i64 2, .slice (some ⟨w.heap.size + 1 + 1, 0, none⟩) 1 1] 35)).alloc (.cells #[.int .i64 1, .int .i64 3, .int .i64 0, .slice (some ⟨w.heap.size + 1 + 1 + 1, 0, none⟩) 3 3] 24)) = w5 at HB5 HK5 HP5 ⊢
  have HW5 := Lib.hid hw5; clear hw5
  have HPx : Hid (∀ W : World, Bl w5 W → Prs W W.heap.size (some ⟨w.heap.size + 1 + 1 + 1, 0, none⟩) pe3) := fun W hb => (HP5.out.bl (Nat.le_refl _) hb).more hb.size
  refine (reach_any 1 3 0 (some ⟨w.heap.size + 1 + 1 + 1, 0, none⟩) 3 3 pe3 _ w5.heap.size rfl (by decide) (HPx.out w5 (Bl.refl w5)) (Nat.le_refl _)).mono ?_
  intro e v1 h1
  obtain ⟨A1, c1, he1, hr1, hb1⟩ := h1.lit re3_is (k := 3) rfl
  subst he1
  have HN := Lib.hid hr1
  have HBc := Lib.hid hb1
  have HKc := Lib.hid (HK5.out.bl hb1)
  clear h1 hr1 hb1
  have HL1 : Hid (Rd (v1.alloc (.cells #[.int .i64 1, .int .i64 0, .int .i64 2, .int .i64 0, .int .i64 0, .int .i64 0] 32)) (v1.heap.size + 1) (some ⟨v1.heap.size, 0, none⟩) (fcRow re3)) := rd_lit _ _ _ _ _ _ rfl (by omega) rfl
  have HN1 := Lib.hid ((HN.out.alloc (Nat.le_refl _) (.cells #[.int .i64 1, .int .i64 0, .int .i64 2, .int .i64 0, .int .i64 0, .int .i64 0] 32)).more (Nat.le_succ _))
  go_wp2_with fail
  refine (fsame_any A1 _ 3 3 c1 3 re3 re3 _ (v1.heap.size + 1) rfl rfl (by decide) HN1.out HL1.out).mono ?_
  rintro e v3 ⟨rfl, hb3⟩
  rw [decide_eq_true rfl]
  have HB3 := Lib.hid (((Bl.refl v1).alloc (.cells #[.int .i64 1, .int .i64 0, .int .i64 2, .int .i64 0, .int .i64 0, .int .i64 0] 32)).trans hb3)
  have HN3 := Lib.hid (rd_on HN.out HB3.out)
  have HK3 := Lib.hid (HKc.out.bl HB3.out)
  clear hb3 HL1 HN1
  have k0 : v3.cell? ⟨w.heap.size + 1 + 1 + 1 + 1, 0, none⟩ = some (.int .i64 1) := HK3.out.cell 0
  have k1 : v3.cell? ⟨w.heap.size + 1 + 1 + 1 + 1, 1, none⟩ = some (.int .i64 3) := HK3.out.cell 1
  have k2 : v3.cell? ⟨w.heap.size + 1 + 1 + 1 + 1, 2, none⟩ = some (.int .i64 0) := HK3.out.cell 2
  have k3 : v3.cell? ⟨w.heap.size + 1 + 1 + 1 + 1, 3, none⟩ = some (.slice (some ⟨w.heap.size + 1 + 1 + 1, 0, none⟩) 3 3) := HK3.out.cell 3
  go_wp2_with fail
  refine (eshows_any 1 3 0 (some ⟨w.heap.size + 1 + 1 + 1, 0, none⟩) 3 3 pe3 A1 3 c1 re3 v3 v3.heap.size rfl (by decide) (HPx.out v3 (HBc.out.trans HB3.out)) rfl (by decide) HN3.out (Nat.le_refl _)).mono ?_
  rintro e v4 ⟨rfl, hb4⟩
  rw [eshows3]
  have HB4 := Lib.hid (HB3.out.trans hb4)
  have HK4 := Lib.hid (HKc.out.bl HB4.out)
  clear hb4 k0 k1 k2 k3
  have k0 : v4.cell? ⟨w.heap.size + 1 + 1 + 1 + 1, 0, none⟩ = some (.int .i64 1) := HK4.out.cell 0
  have k1 : v4.cell? ⟨w.heap.size + 1 + 1 + 1 + 1, 1, none⟩ = some (.int .i64 3) := HK4.out.cell 1
  have k2 : v4.cell? ⟨w.heap.size + 1 + 1 + 1 + 1, 2, none⟩ = some (.int .i64 0) := HK4.out.cell 2
  have k3 : v4.cell? ⟨w.heap.size + 1 + 1 + 1 + 1, 3, none⟩ = some (.slice (some ⟨w.heap.size + 1 + 1 + 1, 0, none⟩) 3 3) := HK4.out.cell 3
  have HL4 : Hid (Rd (v4.alloc (.cells #[.int .i64 0, .int .i64 0, .int .i64 0, .int .i64 0, .int .i64 0, .int .i64 0] 32)) (v4.alloc (.cells #[.int .i64 0, .int .i64 0, .int .i64 0, .int .i64 0, .int .i64 0, .int .i64 0] 32)).heap.size (some ⟨v4.heap.size, 0, none⟩) (fcRow ze3)) := rd_lit _ _ _ _ _ _ rfl (by simp) rfl
  have HA4 : Hid (Bl v4 (v4.alloc (.cells #[.int .i64 0, .int .i64 0, .int .i64 0, .int .i64 0, .int .i64 0, .int .i64 0] 32))) := (Bl.refl v4).alloc _
  go_wp2_with fail
  refine (eshows_any 1 3 0 (some ⟨w.heap.size + 1 + 1 + 1, 0, none⟩) 3 3 pe3 _ 3 3 ze3 _ (v4.alloc (.cells #[.int .i64 0, .int .i64 0, .int .i64 0, .int .i64 0, .int .i64 0, .int .i64 0] 32)).heap.size rfl (by decide) (HPx.out _ (HBc.out.trans (HB4.out.trans HA4.out))) rfl (by decide) HL4.out (Nat.le_refl _)).mono ?_
  rintro e v5 ⟨rfl, hb5⟩
  rw [eshows3z]
  have HB5b := Lib.hid (HB4.out.trans (HA4.out.trans hb5))
  have HK5b := Lib.hid (HKc.out.bl HB5b.out)
  clear hb5 k0 k1 k2 k3
  have k0 : v5.cell? ⟨w.heap.size + 1 + 1 + 1 + 1, 0, none⟩ = some (.int .i64 1) := HK5b.out.cell 0
  have k1 : v5.cell? ⟨w.heap.size + 1 + 1 + 1 + 1, 1, none⟩ = some (.int .i64 3) := HK5b.out.cell 1
  have k2 : v5.cell? ⟨w.heap.size + 1 + 1 + 1 + 1, 2, none⟩ = some (.int .i64 0) := HK5b.out.cell 2
  have k3 : v5.cell? ⟨w.heap.size + 1 + 1 + 1 + 1, 3, none⟩ = some (.slice (some ⟨w.heap.size + 1 + 1 + 1, 0, none⟩) 3 3) := HK5b.out.cell 3
  have HL5 : Hid (Rd (v5.alloc (.cells #[.int .i64 1, .int .i64 0, .int .i64 0, .int .i64 0, .int .i64 2, .int .i64 2] 32)) (v5.alloc (.cells #[.int .i64 1, .int .i64 0, .int .i64 0, .int .i64 0, .int .i64 2, .int .i64 2] 32)).heap.size (some ⟨v5.heap.size, 0, none⟩) (fcRow no3)) := rd_lit _ _ _ _ _ _ rfl (by simp) rfl
  have HA5 : Hid (Bl v5 (v5.alloc (.cells #[.int .i64 1, .int .i64 0, .int .i64 0, .int .i64 0, .int .i64 2, .int .i64 2] 32))) := (Bl.refl v5).alloc _
  go_wp2_with fail
  refine (eshows_any 1 3 0 (some ⟨w.heap.size + 1 + 1 + 1, 0, none⟩) 3 3 pe3 _ 3 3 no3 _ (v5.alloc (.cells #[.int .i64 1, .int .i64 0, .int .i64 0, .int .i64 0, .int .i64 2, .int .i64 2] 32)).heap.size rfl (by decide) (HPx.out _ (HBc.out.trans (HB5b.out.trans HA5.out))) rfl (by decide) HL5.out (Nat.le_refl _)).mono ?_
  rintro e v6 ⟨rfl, hb6⟩
  rw [eshows3n]
  have HB6 := Lib.hid (HB5b.out.trans (HA5.out.trans hb6))
  clear hb6 k0 k1 k2 k3
  go_wp2_with fail
  go_ret
  exact ⟨rfl, HB5.out.trans (HBc.out.trans HB6.out)⟩
end Go.Proofs.Ythjaidaibpdamaa
