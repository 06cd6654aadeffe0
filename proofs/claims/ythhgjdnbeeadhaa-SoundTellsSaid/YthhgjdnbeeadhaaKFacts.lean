/- rank.Nullable: the facts of the ranks without terminals. -/
import Derived.Test.YthhgjdnbeeadhaaKFct
namespace Go.Proofs.Ythhgjdnbeeadhaa
open Go.RowKit

set_option maxHeartbeats 400000 in
theorem nullable_new (t n s : Int) (A : Option Addr) (len c : Nat) (ps : List Gr.Pr) (w : World) (B : Nat) (hlen : len = ps.length) (hmax : len ≤ 9223372036854775807) (hr : Prs w B A ps) (hB : B ≤ w.heap.size) :
    Calls Try.prog 38 #[.agg #[.int .i64 t, .int .i64 n, .int .i64 s, .slice A len c]] w (FNew (factsOf false ⟨t, n, s, ps⟩) w) := by
  have HL := Lib.hid hlen; clear hlen
  have HA := Lib.hid hr; clear hr
  have HBx : Hid (Bl w (w.alloc (.cells #[.int .i64 t, .int .i64 n, .int .i64 s, .slice A len c] 24))) := (Bl.refl w).alloc _
  go_enter Try.func38, Try.ntmps38
  go_wp2_with fail
  refine (facts_new t n s A len c ps false _ B HL.out hmax (HA.out.bl hB HBx.out) (Nat.le_trans hB HBx.out.size)).mono ?_
  rintro e w1 ⟨A1, l1, c1, rfl, hl1, hr1, hb1⟩
  have hr1 := own_base (b' := w.heap.size) hr1 fun k hk => Nat.le_trans HBx.out.size (hr1.lt k hk).1
  have HX := Lib.hid hr1
  have HL1 := Lib.hid hl1
  have HB1 := Lib.hid (HBx.out.trans hb1)
  clear hr1 hl1 hb1
  go_wp2_with fail
  go_ret
  exact ⟨A1, l1, c1, rfl, HL1.out, HX.out, HB1.out⟩
theorem nullable_any (t n s : Int) (A : Option Addr) (len c : Nat) (ps : List Gr.Pr) (w : World) (B : Nat) (hlen : len = ps.length) (hmax : len ≤ 9223372036854775807) (hr : Prs w B A ps) (hB : B ≤ w.heap.size) :
    Calls Try.prog 38 #[.agg #[.int .i64 t, .int .i64 n, .int .i64 s, .slice A len c]] w (FPost (factsOf false ⟨t, n, s, ps⟩) w) :=
  (nullable_new t n s A len c ps w B hlen hmax hr hB).mono fun _ _ h => h.post
end Go.Proofs.Ythhgjdnbeeadhaa
