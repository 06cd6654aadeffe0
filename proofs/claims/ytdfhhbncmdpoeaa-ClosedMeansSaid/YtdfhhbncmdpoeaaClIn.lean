/- The reference's In, of a grammar that is right. -/
import Derived.Test.YtdfhhbncmdpoeaaSpanS
import Derived.Test.YtdfhhbncmdpoeaaGRS
namespace Go.Proofs.Ytdfhhbncmdpoeaa
open Go.RowKit

theorem inok_any (t n s : Int) (A : Option Addr) (len c : Nat) (ps : List Gr.Pr) (Aw : Option Addr) (lw cw : Nat) (xs : List Int) (w : World) (B : Nat) (hlen : len = ps.length) (hr : Prs w B A ps)
    (hlw : lw = xs.length) (hrw : Rd w B Aw (ins xs)) (hB : B ≤ w.heap.size) (hok : Gr.Ok ⟨t, n, s, ps⟩) (h24 : xs.length ≤ 24) :
    Calls Try.prog 14 #[.agg #[.int .i64 t, .int .i64 n, .int .i64 s, .slice A len c], .slice Aw lw cw] w fun e w' => ∃ b : Bool, e = .returned (.bool b) ∧ (b = true ↔ Cf.Cm ⟨t, n, s, ps⟩ [⟨true, s⟩] xs) ∧ Bl w w' := by
  have ho := (okB_iff _).2 hok
  obtain ⟨n1, n2, n3⟩ := ok_nons' ho
  have h5 : 0 ≤ s := hok.2.2.2.2.1
  have h6 : s < n := hok.2.2.2.2.2.1
  obtain ⟨N, rfl⟩ : ∃ N : Nat, n = (N : Int) := ⟨n.toNat, by omega⟩
  obtain ⟨st, rfl⟩ : ∃ st : Nat, s = (st : Int) := ⟨s.toNat, by omega⟩
  refine (in_gen t N st A len c ps Aw lw cw xs w B hlen ⟨by omega, by omega, by omega⟩ (by omega) (fun _ hp => ok_syms' ho hp) hr hlw (by omega) hrw hB).mono ?_
  rintro e w' ⟨rfl, hb⟩
  exact ⟨_, rfl, Sp.comB_iff, hb⟩
end Go.Proofs.Ytdfhhbncmdpoeaa
