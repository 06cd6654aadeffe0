/- rank.facts: the facts of the ranks. -/
import Derived.Test.YthhgjdnbeeadhaaKRound
import Derived.Test.YthhgjdnbeeadhaaGRight
import Derived.Test.YthhgjdnbeeadhaaKFof
namespace Go.Proofs.Ythhgjdnbeeadhaa
open Go.RowKit

theorem KRel.start {t n s : Int} {A : Option Addr} {len c : Nat} {terms : Bool} {nons : Nat} {w wa : World} {gf cf : Nat}
    (ho : wa.ownsRow w.heap.size 33 2 (.slice (some ⟨gf, 0, none⟩) nons cf) nons (madeCells (Value.cells (.agg #[.int .i64 0, .int .i64 0])) (nons * 2)).toList)
    {gg gt : Nat} (hg : Bk wa gg 24 #[.int .i64 t, .int .i64 n, .int .i64 s, .slice A len c]) (ht : Bk wa gt 4 #[.bool terms]) (hb : Bl w wa) :
    KRel t n s A len c terms nons cf gg wa.heap.size gt gf w (Rk.zeros nons) (wa.alloc (.cells #[.slice (some ⟨gf, 0, none⟩) nons cf] 30)) :=
  ⟨hg.alloc _, Bk.new _ _ _, ht.alloc _, by rw [fz_zeros]; exact ho.alloc _, by unfold Rk.zeros; rw [List.length_replicate], hb.alloc _⟩

set_option maxRecDepth 100000 in
set_option maxHeartbeats 2000000 in
theorem facts_new (t n s : Int) (A : Option Addr) (len c : Nat) (ps : List Gr.Pr) (terms : Bool) (w : World) (B : Nat) (hlen : len = ps.length) (hmax : len ≤ 9223372036854775807) (hr : Prs w B A ps) (hB : B ≤ w.heap.size) :
    Calls Try.prog 19 #[.agg #[.int .i64 t, .int .i64 n, .int .i64 s, .slice A len c], .bool terms] w (FNew (factsOf terms ⟨t, n, s, ps⟩) w) := by
  obtain ⟨i0, hi, hz0, hz1, hz2⟩ := info_parts fact_info
  have HL := Lib.hid hlen; clear hlen
  have HA := Lib.hid hr; clear hr
  have HBx : Hid (Bl w ((w.alloc (.cells #[.int .i64 t, .int .i64 n, .int .i64 s, .slice A len c] 24)).alloc (.cells #[.bool terms] 4))) := ((Bl.refl w).alloc _).alloc _
  have HGx : Hid (Bk ((w.alloc (.cells #[.int .i64 t, .int .i64 n, .int .i64 s, .slice A len c] 24)).alloc (.cells #[.bool terms] 4)) w.heap.size 24 #[.int .i64 t, .int .i64 n, .int .i64 s, .slice A len c]) := (Bk.new w _ _).alloc _
  have HTx : Hid (Bk ((w.alloc (.cells #[.int .i64 t, .int .i64 n, .int .i64 s, .slice A len c] 24)).alloc (.cells #[.bool terms] 4)) (w.heap.size + 1) 4 #[.bool terms]) := by
    have h := Bk.new (w.alloc (.cells #[.int .i64 t, .int .i64 n, .int .i64 s, .slice A len c] 24)) 4 #[.bool terms]
    rw [World.size_alloc] at h
    exact h
  have hmf : ∀ (fn : Fn) (first cap : Array Value) (w : World), (Instr.makeFunc fn first cap).run Try.prog w = .ok (.func fn first cap) w := fun _ _ _ _ => rfl
  go_enter Try.func19, Try.ntmps19
  go_wp2_with fail
  refine (right_any t n s A len c ps _ B HL.out hmax (HA.out.bl hB HBx.out) (Nat.le_trans hB HBx.out.size)).mono ?_
  rintro e w1 ⟨rfl, hb1⟩
  have HB1 := Lib.hid (HBx.out.trans hb1)
  have HG1 := Lib.hid (HGx.out.bl hb1)
  have HT1 := Lib.hid (HTx.out.bl hb1)
  clear hb1
  cases hok : okB ⟨t, n, s, ps⟩ with
  | false =>
    have HNo := Lib.hid (factsOf_no (terms := terms) hok)
    clear hok
    go_wp2_with fail
    go_ret
    exact ⟨none, 0, 0, rfl, by rw [HNo.out]; rfl, by rw [HNo.out]; exact World.ownsRow_nil _ _ _ _, HB1.out⟩
  | true =>
    obtain ⟨n1, n2, n3⟩ := ok_nons hok
    obtain ⟨N, rfl⟩ : ∃ N : Nat, n = (N : Int) := ⟨n.toNat, by omega⟩
    have HYes := Lib.hid (factsOf_ok (terms := terms) hok)
    have HOK := Lib.hid hok
    clear hok
    have g1 : w1.cell? ⟨w.heap.size, 1, none⟩ = some (.int .i64 (N : Int)) := HG1.out.cell 1
    have glt : w.heap.size < w1.heap.size := HG1.out.lt
    go_wp2_with (refine wpList_make_full _ rfl (.tmp 12) (.tmp 12) 30 rfl w.heap.size 33 i0 (.agg #[.int .i64 0, .int .i64 0]) 2 Try.underlying30 hi hz0 hz1 .i64 .i64 (N : Int) (N : Int) N rfl rfl rfl rfl (by rw [hz2]; omega) (by simp only [maxLen]; omega) (by omega) ?_; intro w2 hown2 hg2; have HG2 := Lib.hid (HG1.out.grown hg2 (by simp)); have HT2 := Lib.hid (HT1.out.grown hg2 (by simp)); have HB2 := Lib.hid (HB1.out.grown hg2 (by simp)); have HK := Lib.hid (KRel.start (terms := terms) hown2 HG2.out HT2.out HB2.out); clear hown2 hg2)
    clear g1 glt HG1 HT1 HB1 HBx HGx HTx
    go_loopw [7] (fun i wr => ∃ k r : Nat, k ≤ N ∧ r ≤ N + 1 ∧ i = .int .i64 r ∧ Hid (r = k + 1) ∧ Hid (KRel t N s A len c terms N N w.heap.size w2.heap.size (w.heap.size + 1) w1.heap.size w (Rk.rounds' terms ps N k) wr)) (fun i _ => N + 1 - (intOf i).toNat)
    case atStart => exact ⟨0, 1, Nat.zero_le _, by omega, rfl, rfl, HK.out⟩
    case round =>
      obtain ⟨k, r, hk, hrn, rfl, HRk, HKk⟩ := hrel
      have HRd : Hid (Rk.round (Rk.pick terms ps) (Rk.rounds' terms ps N k) r = Rk.rounds' terms ps N (k + 1)) := by rw [HRk.out]; exact (Rk.rounds'_succ ..).symm
      go_wp2_with fail
      refine (round_any t N s A len c ps terms N N w.heap.size w2.heap.size (w.heap.size + 1) w1.heap.size w (Rk.rounds' terms ps N k) r wr B HL.out HOK.out rfl HA.out hB HKk.out (by rw [HRk.out]; exact Rk.rounds'_lt terms ps N k) (by omega)).mono ?_
      rw [HRd.out]
      rintro e w3 ⟨rfl, hk3⟩
      have HK3 := Lib.hid hk3; clear hk3
      by_cases hne : Rk.rounds' terms ps N (k + 1) ≠ Rk.rounds' terms ps N k
      · rw [decide_eq_true hne]
        have hkl := Rk.turned_lt terms ps N k hne
        clear hne
        have hrl : r ≤ N := by have := HRk.out; omega
        go_wp2_with fail
        go_roundw
        case rel => exact ⟨k + 1, r + 1, by omega, by omega, by go_num, by rw [HRk.out]; rfl, HK3.out⟩
        case measure => simp [intOf]; omega
      · rw [decide_eq_false hne]
        have hee : Rk.rounds' terms ps N (k + 1) = Rk.rounds' terms ps N k := Classical.not_not.mp hne
        have HE := Lib.hid (hee.trans (Rk.ranks_of terms ps N hee))
        clear hne hee
        have kk0 : w3.cell? ⟨w2.heap.size, 0, none⟩ = some (.slice (some ⟨w1.heap.size, 0, none⟩) N N) := HK3.out.bl.cell 0
        have klt : w2.heap.size < w3.heap.size := HK3.out.bl.lt
        go_wp2_with fail
        go_ret
        refine ⟨_, N, N, rfl, ?_, ?_, HK3.out.b⟩
        · rw [HYes.out, fz_len, Rk.ranks_length]; simp
        · rw [HYes.out]
          have h := HK3.out.own
          rw [HE.out] at h
          simpa using h
theorem facts_any (t n s : Int) (A : Option Addr) (len c : Nat) (ps : List Gr.Pr) (terms : Bool) (w : World) (B : Nat) (hlen : len = ps.length) (hmax : len ≤ 9223372036854775807) (hr : Prs w B A ps) (hB : B ≤ w.heap.size) :
    Calls Try.prog 19 #[.agg #[.int .i64 t, .int .i64 n, .int .i64 s, .slice A len c], .bool terms] w (FPost (factsOf terms ⟨t, n, s, ps⟩) w) :=
  (facts_new t n s A len c ps terms w B hlen hmax hr hB).mono fun _ _ h => h.post
end Go.Proofs.Ythhgjdnbeeadhaa
