/- The sound laws' awake, whatever code Check has: SoundC says what is asked of it. -/
import Derived.Test.YthhgjdnbeeadhaaSdOf
import Derived.Test.YthhgjdnbeeadhaaPrC
import Derived.Test.YthhgjdnbeeadhaaKPost
namespace Go.Proofs.Ythhgjdnbeeadhaa
open Go.RowKit

/-- What Check must tell. -/
abbrev SoundC : Prop := ∀ (t n s : Int) (A : Option Addr) (len c : Nat) (ps : List Gr.Pr) (w : World) (B : Nat), len = ps.length → len ≤ 9223372036854775807 → PrsC w B A ps → B ≤ w.heap.size →
  Calls Try.prog 7 #[.agg #[.int .i64 t, .int .i64 n, .int .i64 s, .slice A len c]] w fun e w' =>
    e = .returned (.tuple #[.int .i64 (chkOf ⟨t, n, s, ps⟩).1, .int .i64 (chkOf ⟨t, n, s, ps⟩).2]) ∧ Bl w w'
theorem rd_bl_lit (w : World) (cs : Array Value) (t : TypeId) (xs : List Value) {W : World} (hb : Bl (w.alloc (.cells cs t)) W) (h : cs.toList = xs) {g : Nat} (hg : g = w.heap.size) : Rd W W.heap.size (some ⟨g, 0, none⟩) xs :=
  rd_on (rd_lit w cs t xs g _ hg (by rw [hg]; simp) h) hb
def ps14a : List Gr.Pr := [⟨0, [⟨true, 0⟩, ⟨false, 0⟩]⟩, ⟨0, [⟨false, 0⟩]⟩]
def ps14b : List Gr.Pr := [⟨0, [⟨false, 0⟩, ⟨true, 0⟩]⟩, ⟨0, []⟩]
def ps14c : List Gr.Pr := [⟨0, []⟩]
def ps14d : List Gr.Pr := [⟨0, []⟩, ⟨1, []⟩]
theorem chk14a : chkOf ⟨1, 1, 0, ps14a⟩ = (0, 10) := by kernel_rfl
theorem chk14b : chkOf ⟨1, 1, 0, ps14b⟩ = (0, 0) := by kernel_rfl
theorem chk14c : chkOf ⟨0, 2, 0, ps14c⟩ = (1, 8) := by kernel_rfl
theorem chk14d : chkOf ⟨0, 2, 0, ps14d⟩ = (1, 9) := by kernel_rfl
theorem chk14e : chkOf ⟨0, 0, 0, []⟩ = (0, 1) := by kernel_rfl
theorem prs14a (w : World) : PrsC (((w.alloc (.cells #[.bool true, .int .i64 0, .bool false, .int .i64 0] 38)).alloc (.cells #[.bool false, .int .i64 0] 38)).alloc (.cells #[.int .i64 0, .slice (some ⟨w.heap.size, 0, none⟩) 2 2, .int .i64 0, .slice (some ⟨w.heap.size + 1, 0, none⟩) 1 1] 41))
    (((w.alloc (.cells #[.bool true, .int .i64 0, .bool false, .int .i64 0] 38)).alloc (.cells #[.bool false, .int .i64 0] 38)).alloc (.cells #[.int .i64 0, .slice (some ⟨w.heap.size, 0, none⟩) 2 2, .int .i64 0, .slice (some ⟨w.heap.size + 1, 0, none⟩) 1 1] 41)).heap.size (some ⟨w.heap.size + 1 + 1, 0, none⟩) ps14a := by
  refine ⟨[⟨0, [⟨true, 0⟩, ⟨false, 0⟩], some ⟨w.heap.size, 0, none⟩, 2⟩, ⟨0, [⟨false, 0⟩], some ⟨w.heap.size + 1, 0, none⟩, 1⟩], rfl, rd_bl_lit _ _ _ _ (Bl.refl _) rfl (by simp), ?_⟩
  intro h hh
  simp only [List.mem_cons, List.not_mem_nil, or_false] at hh
  rcases hh with rfl | rfl
  · exact ⟨rd_bl_lit w _ _ _ (((Bl.refl _).alloc _).alloc _) rfl rfl, (show (2 : Nat) ≤ 2 from Nat.le_refl _), (show (2 : Nat) ≤ maxLen by simp only [maxLen]; omega)⟩
  · exact ⟨rd_bl_lit _ _ _ _ ((Bl.refl _).alloc _) rfl (by simp), (show (1 : Nat) ≤ 1 from Nat.le_refl _), (show (1 : Nat) ≤ maxLen by simp only [maxLen]; omega)⟩
theorem prs14b (w : World) : PrsC ((w.alloc (.cells #[.bool false, .int .i64 0, .bool true, .int .i64 0] 38)).alloc (.cells #[.int .i64 0, .slice (some ⟨w.heap.size, 0, none⟩) 2 2, .int .i64 0, .slice none 0 0] 41))
    ((w.alloc (.cells #[.bool false, .int .i64 0, .bool true, .int .i64 0] 38)).alloc (.cells #[.int .i64 0, .slice (some ⟨w.heap.size, 0, none⟩) 2 2, .int .i64 0, .slice none 0 0] 41)).heap.size (some ⟨w.heap.size + 1, 0, none⟩) ps14b := by
  refine ⟨[⟨0, [⟨false, 0⟩, ⟨true, 0⟩], some ⟨w.heap.size, 0, none⟩, 2⟩, ⟨0, [], none, 0⟩], rfl, rd_bl_lit _ _ _ _ (Bl.refl _) rfl (by simp), ?_⟩
  intro h hh
  simp only [List.mem_cons, List.not_mem_nil, or_false] at hh
  rcases hh with rfl | rfl
  · exact ⟨rd_bl_lit w _ _ _ ((Bl.refl _).alloc _) rfl rfl, (show (2 : Nat) ≤ 2 from Nat.le_refl _), (show (2 : Nat) ≤ maxLen by simp only [maxLen]; omega)⟩
  · exact ⟨Rd.nil, Nat.le_refl _, Nat.zero_le _⟩
theorem prs14c (w : World) : PrsC (w.alloc (.cells #[.int .i64 0, .slice none 0 0] 41)) (w.alloc (.cells #[.int .i64 0, .slice none 0 0] 41)).heap.size (some ⟨w.heap.size, 0, none⟩) ps14c := by
  refine ⟨[⟨0, [], none, 0⟩], rfl, rd_bl_lit _ _ _ _ (Bl.refl _) rfl rfl, ?_⟩
  intro h hh
  simp only [List.mem_cons, List.not_mem_nil, or_false] at hh
  subst hh
  exact ⟨Rd.nil, Nat.le_refl _, Nat.zero_le _⟩
theorem prs14d (w : World) : PrsC (w.alloc (.cells #[.int .i64 0, .slice none 0 0, .int .i64 1, .slice none 0 0] 41)) (w.alloc (.cells #[.int .i64 0, .slice none 0 0, .int .i64 1, .slice none 0 0] 41)).heap.size (some ⟨w.heap.size, 0, none⟩) ps14d := by
  refine ⟨[⟨0, [], none, 0⟩, ⟨1, [], none, 0⟩], rfl, rd_bl_lit _ _ _ _ (Bl.refl _) rfl rfl, ?_⟩
  intro h hh
  simp only [List.mem_cons, List.not_mem_nil, or_false] at hh
  rcases hh with rfl | rfl <;> exact ⟨Rd.nil, Nat.le_refl _, Nat.zero_le _⟩

set_option maxRecDepth 100000 in
set_option maxHeartbeats 4000000 in
theorem awake14_any (HC : SoundC) (w : World) : Calls Try.prog 5 #[] w fun e w' => e = .returned (.bool true) ∧ Bl w w' := by
  have HPa := Lib.hid (prs14a w)
  have HBa : Hid (Bl w (((w.alloc (.cells #[.bool true, .int .i64 0, .bool false, .int .i64 0] 38)).alloc (.cells #[.bool false, .int .i64 0] 38)).alloc (.cells #[.int .i64 0, .slice (some ⟨w.heap.size, 0, none⟩) 2 2, .int .i64 0, .slice (some ⟨w.heap.size + 1, 0, none⟩) 1 1] 41))) := (((Bl.refl w).alloc _).alloc _).alloc _
  go_enter Try.func5, Try.ntmps5
  go_wp2_with fail
  refine (HC 1 1 0 (some ⟨w.heap.size + 1 + 1, 0, none⟩) 2 2 ps14a _ _ rfl (by decide) HPa.out (Nat.le_refl _)).mono ?_
  rw [chk14a]
  rintro e w1 ⟨rfl, hb1⟩
  have HB1 := Lib.hid (HBa.out.trans hb1)
  have HPb := Lib.hid (prs14b w1)
  have HBb : Hid (Bl w1 ((w1.alloc (.cells #[.bool false, .int .i64 0, .bool true, .int .i64 0] 38)).alloc (.cells #[.int .i64 0, .slice (some ⟨w1.heap.size, 0, none⟩) 2 2, .int .i64 0, .slice none 0 0] 41))) := ((Bl.refl w1).alloc _).alloc _
  clear hb1 HPa HBa
  go_wp2_with fail
  refine (HC 1 1 0 (some ⟨w1.heap.size + 1, 0, none⟩) 2 2 ps14b _ _ rfl (by decide) HPb.out (Nat.le_refl _)).mono ?_
  rw [chk14b]
  rintro e w2 ⟨rfl, hb2⟩
  have HB2 := Lib.hid (HB1.out.trans (HBb.out.trans hb2))
  have HPc := Lib.hid (prs14c w2)
  have HBc : Hid (Bl w2 (w2.alloc (.cells #[.int .i64 0, .slice none 0 0] 41))) := (Bl.refl w2).alloc _
  clear hb2 HPb HBb HB1
  go_wp2_with fail
  refine (HC 0 2 0 (some ⟨w2.heap.size, 0, none⟩) 1 1 ps14c _ _ rfl (by decide) HPc.out (Nat.le_refl _)).mono ?_
  rw [chk14c]
  rintro e w3 ⟨rfl, hb3⟩
  have HB3 := Lib.hid (HB2.out.trans (HBc.out.trans hb3))
  have HPd := Lib.hid (prs14d w3)
  have HBd : Hid (Bl w3 (w3.alloc (.cells #[.int .i64 0, .slice none 0 0, .int .i64 1, .slice none 0 0] 41))) := (Bl.refl w3).alloc _
  clear hb3 HPc HBc HB2
  go_wp2_with fail
  refine (HC 0 2 0 (some ⟨w3.heap.size, 0, none⟩) 2 2 ps14d _ _ rfl (by decide) HPd.out (Nat.le_refl _)).mono ?_
  rw [chk14d]
  rintro e w4 ⟨rfl, hb4⟩
  have HB4 := Lib.hid (HB3.out.trans (HBd.out.trans hb4))
  clear hb4 HPd HBd HB3
  go_wp2_with fail
  refine (HC 0 0 0 none 0 0 [] _ _ rfl (by decide) PrsC.nil (Nat.le_refl _)).mono ?_
  rw [chk14e]
  rintro e w5 ⟨rfl, hb5⟩
  have HB5 := Lib.hid (HB4.out.trans hb5)
  clear hb5 HB4
  go_wp2_with fail
  go_ret
  exact ⟨rfl, HB5.out⟩
end Go.Proofs.Ythhgjdnbeeadhaa
