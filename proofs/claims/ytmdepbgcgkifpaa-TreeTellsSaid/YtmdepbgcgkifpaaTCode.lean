/- tree.Replay, tree.Nodes. -/
import Derived.Test.YtmdepbgcgkifpaaTNds
import Derived.Test.YtmdepbgcgkifpaaTRep
namespace Go.Proofs.Ytmdepbgcgkifpaa
open Go.RowKit

section
variable (t n s : Int) (A : Option Addr) (len c : Nat) (ps : List Gr.Pr) (Al : Option Addr) (ll cl : Nat) (l : List Int) (w : World) (B : Nat) (hlen : len = ps.length) (hmax : len ≤ 9223372036854775807) (hr : PrsC w B A ps) (hB : B ≤ w.heap.size)
    (hll : ll = l.length) (hml : ll ≤ 9223372036854775806) (hrl : Rd w B Al (ins l))
include hlen hmax hr hB hll hml hrl
set_option maxHeartbeats 1000000 in
theorem replay_any : Calls Try.prog 8 #[.agg #[.int .i64 t, .int .i64 n, .int .i64 s, .slice A len c], .slice Al ll cl] w (TWPost (Dv.replayOf (okB ⟨t, n, s, ps⟩) ⟨t, n, s, ps⟩ l) w) := by
  have hb0 : Bl w (w.alloc (.cells #[.int .i64 t, .int .i64 n, .int .i64 s, .slice A len c] 24)) := (Bl.refl w).alloc _
  have HC := Lib.hid (derive_any t n s A len c ps Al ll cl l _ B hlen hmax (hr.bl hB hb0) (Nat.le_trans hB hb0.size) hll hml (hrl.bl hB hb0))
  have HB0 := Lib.hid hb0
  clear hlen hmax hr hB hll hml hrl hb0
  go_enter Try.func8, Try.ntmps8
  go_wp2_with fail
  refine HC.out.mono ?_
  rintro e w1 ⟨A1, n1, c1, A2, n2, c2, nd, rfl, h1, h2, h3, h4, h5, h6, h7, h8⟩
  have HB1 := Lib.hid (HB0.out.trans h8)
  have H1 := Lib.hid h1
  have H2 := Lib.hid (own_base (b' := w.heap.size) h2 fun k hk => Nat.le_trans HB0.out.size (h2.lt k hk).1)
  clear h1 h2 h3 h4 h5 h6 h7 h8
  go_wp2_with fail
  go_ret2
  exact ⟨A1, n1, c1, rfl, H1.out, H2.out, HB1.out⟩
set_option maxHeartbeats 1000000 in
theorem nodes_any : Calls Try.prog 10 #[.agg #[.int .i64 t, .int .i64 n, .int .i64 s, .slice A len c], .slice Al ll cl] w (fun e w' => ∃ nd, ((Dv.replayOf (okB ⟨t, n, s, ps⟩) ⟨t, n, s, ps⟩ l).2 ≠ 0 → nd = []) ∧ ((Dv.replayOf (okB ⟨t, n, s, ps⟩) ⟨t, n, s, ps⟩ l).2 = 0 → Dv.NodesOf ps s l nd) ∧ nd.length ≤ 2000 ∧
    NPost nd (Dv.replayOf (okB ⟨t, n, s, ps⟩) ⟨t, n, s, ps⟩ l).2 w e w') := by
  have hb0 : Bl w (w.alloc (.cells #[.int .i64 t, .int .i64 n, .int .i64 s, .slice A len c] 24)) := (Bl.refl w).alloc _
  have HC := Lib.hid (derive_any t n s A len c ps Al ll cl l _ B hlen hmax (hr.bl hB hb0) (Nat.le_trans hB hb0.size) hll hml (hrl.bl hB hb0))
  have HB0 := Lib.hid hb0
  clear hlen hmax hr hB hll hml hrl hb0
  generalize Dv.replayOf (okB ⟨t, n, s, ps⟩) ⟨t, n, s, ps⟩ l = x at *
  go_enter Try.func10, Try.ntmps10
  go_wp2_with fail
  refine HC.out.mono ?_
  rintro e w1 ⟨A1, n1, c1, A2, n2, c2, nd, rfl, h1, h2, h3, h4, h5, h6, h7, h8⟩
  have HB1 := Lib.hid (HB0.out.trans h8)
  have H3 := Lib.hid h3
  have H4 := Lib.hid h4
  have H5 := Lib.hid h5
  have H6 := Lib.hid h6
  clear h1 h2 h3 h4 h5 h6 h8
  go_wp2_with fail
  go_ret2
  exact ⟨nd, H5.out, H6.out, H3.out ▸ h7, A2, n2, c2, rfl, H3.out, H4.out, HB1.out⟩
end
end Go.Proofs.Ytmdepbgcgkifpaa
