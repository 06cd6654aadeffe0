/- ReachTells' contract: what layer 10 tells is what the document says. -/
import Derived.Test.YthjaidaibpdamaaEAwake
import Derived.Test.YthjaidaibpdamaaERReach
import Derived.Test.YthjaidaibpdamaaERShows
import Derived.Deep.RegionHeld3
namespace Go.Proofs.Ythjaidaibpdamaa
open Go.RowKit

set_option maxRecDepth 100000 in
set_option maxHeartbeats 8000000 in
theorem reachTells_any (t n s : Int) (A : Option Addr) (len c : Nat) (ps : List Gr.Pr) (Af : Option Addr) (lf cf : Nat) (l : List Fc) (W : World)
    (hlen : len = ps.length) (hmax : len ≤ 9223372036854775807) (hr : Prs W W.heap.size A ps) (hlf : lf = l.length) (hmf : lf ≤ 9223372036854775807) (hrl : Rd W W.heap.size Af (fcRow l)) :
    Calls Try.prog 3 #[.agg #[.int .i64 t, .int .i64 n, .int .i64 s, .slice A len c], .slice Af lf cf] W fun e w' => e = .returned (.bool true) ∧ Bl W w' := by
  have HL := Lib.hid hlen; clear hlen
  have HLF := Lib.hid hlf; clear hlf
  have HP : Hid (∀ w', Bl W w' → Prs w' w'.heap.size A ps) := fun _ hb => (hr.bl (Nat.le_refl _) hb).more hb.size
  have HF : Hid (∀ w', Bl W w' → Rd w' w'.heap.size Af (fcRow l)) := fun _ hb => rd_on hrl hb
  clear hr hrl
  have HB0 : Hid (Bl W (W.alloc (.cells #[.int .i64 t, .int .i64 n, .int .i64 s, .slice A len c] 24))) := (Bl.refl W).alloc _
  have HK0 := Lib.hid (Bk.new W 24 #[.int .i64 t, .int .i64 n, .int .i64 s, .slice A len c])
  go_enter Try.func3, Try.ntmps3
  go_wp2_with fail
  refine (awake10_any _).mono ?_
  rintro e w1 ⟨rfl, hb1⟩
  have HB1 := Lib.hid (HB0.out.trans hb1)
  have HK1 := Lib.hid (HK0.out.bl hb1)
  clear hb1 HB0 HK0
  have k0 : w1.cell? ⟨W.heap.size, 0, none⟩ = some (.int .i64 t) := HK1.out.cell 0
  have k1 : w1.cell? ⟨W.heap.size, 1, none⟩ = some (.int .i64 n) := HK1.out.cell 1
  have k2 : w1.cell? ⟨W.heap.size, 2, none⟩ = some (.int .i64 s) := HK1.out.cell 2
  have k3 : w1.cell? ⟨W.heap.size, 3, none⟩ = some (.slice A len c) := HK1.out.cell 3
  go_wp2_with fail
  refine (large9_any t n s A len c ps _ w1.heap.size HL.out hmax (HP.out _ HB1.out) (Nat.le_refl _)).mono ?_
  rintro e w2 ⟨rfl, hb2⟩
  have HBw := Lib.hid (HB1.out.trans hb2)
  have HKc := Lib.hid (HK1.out.bl hb2)
  clear hb2 k0 k1 k2 k3 HB1 HK1
  cases hlg : lgB ps with
  | true =>
    go_wp2_with fail
    go_ret
    exact ⟨rfl, HBw.out⟩
  | false =>
  clear hlg
  by_cases h100 : 100 < lf
  · go_wp2_with fail
    go_ret
    exact ⟨rfl, HBw.out⟩
  go_wp2_with fail
  have HPc : Hid (∀ w', Bl w2 w' → Prs w' w'.heap.size A ps) := fun _ hb => HP.out _ (HBw.out.trans hb)
  have HFc : Hid (∀ w', Bl w2 w' → Rd w' w'.heap.size Af (fcRow l)) := fun _ hb => HF.out _ (HBw.out.trans hb)
  have HBc := Lib.hid (Bl.refl w2)
  have hn24 := reachOf_short ⟨t, n, s, ps⟩
  have tk1 : True := trivial
  have tk2 : True := trivial
  have tk3 : True := trivial
  have tk4 : True := trivial
  have tk5 : True := trivial
  go_region_held3 (fun w' => w'.cell? ⟨W.heap.size, 0, none⟩ = some (.int .i64 t) ∧ w'.cell? ⟨W.heap.size, 1, none⟩ = some (.int .i64 n) ∧ w'.cell? ⟨W.heap.size, 2, none⟩ = some (.int .i64 s) ∧ w'.cell? ⟨W.heap.size, 3, none⟩ = some (.slice A len c)) (exact ⟨HKc.out.cell 0, HKc.out.cell 1, HKc.out.cell 2, HKc.out.cell 3⟩) (first
    | (go_at_call 9; have _t := tk1; ((with_reducible refine (reach_any t n s A len c ps _ w2.heap.size HL.out hmax (prs_drew (HPc.out w2 (Bl.refl w2))) (Nat.le_refl _)).mono ?_); intro e v1 h1; obtain ⟨A1, c1, he1, hr1, hb1⟩ := h1.lit rfl rfl; subst he1; have H1 := Lib.hid hr1; have HBc := Lib.hid (Bl.undrew hb1); have HKc := Lib.hid (HKc.out.bl (Bl.undrew hb1)); clear h1 hr1 hb1; clear tk1))
    | (go_at_call 10; have _t := tk2; ((with_reducible refine (rreach_any t n s A len c ps _ v1.heap.size HL.out hmax (HPc.out v1 HBc.out) (Nat.le_refl _)).mono ?_); intro e v2 h2; obtain ⟨A2, c2, he2, hr2, hb2⟩ := h2.lit rfl rfl; subst he2; have H2 := Lib.hid hr2; have H1 := Lib.hid (rd_on H1.out hb2); have HBc := Lib.hid (HBc.out.trans hb2); have HKc := Lib.hid (HKc.out.bl hb2); clear h2 hr2 hb2; clear tk2))
    | (go_at_call 8; have _t := tk3; ((with_reducible refine (fsame_any A1 A2 _ _ c1 c2 (reachOf ⟨t, n, s, ps⟩) (reachOf ⟨t, n, s, ps⟩) _ v2.heap.size rfl rfl (by omega) H1.out H2.out).mono ?_); rintro e v3 ⟨rfl, hb3⟩; rw [decide_eq_true rfl]; have HBc := Lib.hid (HBc.out.trans hb3); have HKc := Lib.hid (HKc.out.bl hb3); clear hb3; clear tk3))
    | (go_at_call 11; have _t := tk4; ((with_reducible refine (eshows_any t n s A len c ps Af lf cf l _ v3.heap.size HL.out hmax (HPc.out v3 HBc.out) HLF.out hmf (HFc.out v3 HBc.out) (Nat.le_refl _)).mono ?_); rintro e v4 ⟨rfl, hb4⟩; have HBc := Lib.hid (HBc.out.trans hb4); have HKc := Lib.hid (HKc.out.bl hb4); clear hb4; clear tk4))
    | (go_at_call 12; have _t := tk5; ((with_reducible refine (reshows_any t n s A len c ps Af lf cf l _ v4.heap.size HL.out hmax (HPc.out v4 HBc.out) HLF.out hmf (HFc.out v4 HBc.out) (Nat.le_refl _)).mono ?_); rintro e v5 ⟨rfl, hb5⟩; have HBc := Lib.hid (HBc.out.trans hb5); have HKc := Lib.hid (HKc.out.bl hb5); clear hb5; clear tk5)))
  go_wp2_with fail
  go_ret
  exact ⟨rfl, HBw.out.trans HBc.out⟩
end Go.Proofs.Ythjaidaibpdamaa
