/- rank.leansBelow: may symbols stand in a production that tells a rank? -/
import Derived.Test.YthhgjdnbeeadhaaKMem
namespace Go.Proofs.Ythhgjdnbeeadhaa
open Go.RowKit

set_option maxRecDepth 100000 in
set_option maxHeartbeats 1000000 in
theorem leans_any (r : Int) (A : Option Addr) (len c : Nat) (right : List Gr.Sy) (Af : Option Addr) (lf cf : Nat) (l : List Fc) (terms : Bool) (w : World) (B : Nat)
    (hlen : len = right.length) (hmax : len ≤ 1000000000) (hr : Rd w B A (syRow right)) (hlf : lf = l.length) (hrl : Rd w B Af (fcRow l)) (hB : B ≤ w.heap.size)
    (hs : ∀ s ∈ right, s.non = true → 0 ≤ s.n ∧ s.n < (lf : Int)) :
    Calls Try.prog 35 #[.int .i64 r, .slice A len c, .slice Af lf cf, .bool terms] w fun e w' => e = .returned (.bool (leansB terms l r right)) ∧ Bl w w' := by
  have HL := Lib.hid hlen; clear hlen
  have HA := Lib.hid hr; clear hr
  have HLF := Lib.hid hlf; clear hlf
  have HF := Lib.hid hrl; clear hrl
  have HS := Lib.hid hs; clear hs
  go_enter Try.func35, Try.ntmps35
  go_wp2_with fail
  go_loopw [13] (fun i wr => ∃ k : Nat, k ≤ len ∧ i = .int .i64 k ∧ Hid (∀ x ∈ right.take k, leanS terms l r x = true) ∧ Hid (Bl w wr)) (fun i _ => len - (intOf i).toNat)
  case atStart => exact ⟨0, Nat.zero_le _, rfl, by simp [Hid], Bl.refl w⟩
  case round =>
    obtain ⟨k, hk, rfl, HT, HB⟩ := hrel
    by_cases hlt : k < len
    · have hj : k < right.length := by have := HL.out; omega
      have hBr : B ≤ wr.heap.size := Nat.le_trans hB HB.out.size
      obtain ⟨b, off, rfl, hbB, q0, q1⟩ := (HA.out.bl hB HB.out).sym hj
      have HBad := Lib.hid (fun h => leansB_one (terms := terms) (l := l) (r := r) hj h)
      have HGood := Lib.hid (all_snoc hj HT.out)
      have HSk := Lib.hid (HS.out _ (List.getElem_mem hj))
      generalize right[k] = y at *
      obtain ⟨yb, yn⟩ := y
      simp only at q0 q1
      clear hj
      cases yb with
      | false =>
        cases terms with
        | false =>
          have HG := Lib.hid (HBad.out rfl)
          go_wp2_with fail
          go_ret
          exact ⟨by rw [HG.out]; rfl, HB.out.alloc _⟩
        | true =>
          have HY := Lib.hid (HGood.out rfl)
          go_wp2_with fail
          go_roundw
          case rel => exact ⟨k + 1, by omega, by go_num, HY.out, HB.out.alloc _⟩
          case measure => simp [intOf]; omega
      | true =>
        obtain ⟨m, hme, hmlt⟩ : ∃ m : Nat, yn = (m : Int) ∧ m < lf := by
          have := HSk.out rfl
          exact ⟨yn.toNat, by simp only at this; omega, by simp only at this; omega⟩
        subst hme
        have hml : m < l.length := by have := HLF.out; omega
        obtain ⟨bf, off2, rfl, hbf, f0, f1⟩ := (HF.out.bl hB HB.out).fact hml
        have HYes := Lib.hid (fun h1 h2 => leanS_yes (terms := terms) (r := r) hml h1 h2)
        have HNo := Lib.hid (fun h => leanS_no (terms := terms) (r := r) hml h)
        generalize l[m] = x at f0 f1 HYes HNo
        obtain ⟨xr, xp⟩ := x
        simp only at f0 f1
        have hbw : bf < wr.heap.size := by omega
        have f0a : (wr.alloc (.cells #[.bool true, .int .i64 (m : Int)] 38)).cell? ⟨bf, off2 + m * 2, none⟩ = some (.int .i64 xr) := (World.cell?_alloc_lt _ _ _ hbw).trans f0
        clear hml f1
        by_cases r1 : xr < 1
        · have HG := Lib.hid (HBad.out (HNo.out (.inl r1)))
          go_wp2_with fail
          go_ret
          exact ⟨by rw [HG.out]; rfl, HB.out.alloc _⟩
        by_cases r2 : r ≤ xr
        · have HG := Lib.hid (HBad.out (HNo.out (.inr r2)))
          go_wp2_with fail
          go_ret
          exact ⟨by rw [HG.out]; rfl, HB.out.alloc _⟩
        have HY := Lib.hid (HGood.out (HYes.out (by show 1 ≤ xr; omega) (by show xr < r; omega)))
        go_wp2_with fail
        go_roundw
        case rel => exact ⟨k + 1, by omega, by go_num, HY.out, HB.out.alloc _⟩
        case measure => simp [intOf]; omega
    · go_wp2_with fail
      go_ret
      have hg : leansB terms l r right = true := leansB_all (by
        have h := HT.out
        rw [List.take_of_length_le (by have := HL.out; omega)] at h
        exact h)
      exact ⟨by rw [hg]; rfl, HB.out⟩
end Go.Proofs.Ythhgjdnbeeadhaa
