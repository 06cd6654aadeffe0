/- sound.faults: the three kinds, each with the closure that looks for it. -/
import Derived.Test.YthhgjdnbeeadhaaSdRegion
namespace Go.Proofs.Ythhgjdnbeeadhaa
open Go.RowKit

set_option maxRecDepth 100000 in
set_option maxHeartbeats 2000000 in
theorem faults_any (t s : Int) (A : Option Addr) (len c N : Nat) (ps : List Gr.Pr) (w : World) (B : Nat) (hlen : len = ps.length) (hr : Prs w B A ps) (hB : B ≤ w.heap.size) (hok : okB ⟨t, (N : Int), s, ps⟩ = true) :
    Calls Try.prog 15 #[.agg #[.int .i64 t, .int .i64 N, .int .i64 s, .slice A len c]] w fun e w' => ∃ gf g1 g2 g3 : Nat, e = .returned (.slice (some ⟨gf, 0, none⟩) 3 3) ∧
      Bk w' gf 46 #[.int .i64 8, .func (.func 27) #[] #[.pointer (some ⟨g1, 0, none⟩)], .int .i64 9, .func (.func 28) #[] #[.pointer (some ⟨g2, 0, none⟩)], .int .i64 10, .func (.func 29) #[] #[.pointer (some ⟨g3, 0, none⟩)]] ∧
      FltVars ⟨t, (N : Int), s, ps⟩ N g1 g2 g3 w w' := by
  have HL := Lib.hid hlen; clear hlen
  have HA := Lib.hid hr; clear hr
  have HOK := Lib.hid hok; clear hok
  have HBx : Hid (Bl w (w.alloc (.cells #[.int .i64 t, .int .i64 N, .int .i64 s, .slice A len c] 24))) := (Bl.refl w).alloc _
  have HGx : Hid (Bk (w.alloc (.cells #[.int .i64 t, .int .i64 N, .int .i64 s, .slice A len c] 24)) w.heap.size 24 #[.int .i64 t, .int .i64 N, .int .i64 s, .slice A len c]) := Bk.new w _ _
  have hmf : ∀ (fn : Fn) (first cap : Array Value) (w : World), (Instr.makeFunc fn first cap).run Try.prog w = .ok (.func fn first cap) w := fun _ _ _ _ => rfl
  go_enter Try.func15, Try.ntmps15
  go_wp2_with fail
  refine faultsRegion t s A len c N ps w _ B w.heap.size _ _ _ _ _ _ _ _ _ _ _ _ _ _ _ _ _ _ _ HL.out HOK.out HA.out hB HGx.out HBx.out (fun _ a a' _ h hq => by obtain ⟨ta, da⟩ := a; obtain ⟨tb, db⟩ := a'; cases h; exact hq) ?_
  intro g1 g2 g3 x6 x7 x8 x9 x10 x11 w2 hk
  have HK := Lib.hid hk
  clear hk
  have HX := Lib.hid (Bk.new w2 46 #[.int .i64 8, .func (.func 27) #[] #[.pointer (some ⟨g1, 0, none⟩)], .int .i64 9, .func (.func 28) #[] #[.pointer (some ⟨g2, 0, none⟩)], .int .i64 10, .func (.func 29) #[] #[.pointer (some ⟨g3, 0, none⟩)]])
  have HV := Lib.hid (HK.out.bl ((Bl.refl w2).alloc (.cells #[.int .i64 8, .func (.func 27) #[] #[.pointer (some ⟨g1, 0, none⟩)], .int .i64 9, .func (.func 28) #[] #[.pointer (some ⟨g2, 0, none⟩)], .int .i64 10, .func (.func 29) #[] #[.pointer (some ⟨g3, 0, none⟩)]] 46)))
  go_wp2_with fail
  go_ret
  exact ⟨w2.heap.size, g1, g2, g3, rfl, HX.out, HV.out⟩
end Go.Proofs.Ythhgjdnbeeadhaa
