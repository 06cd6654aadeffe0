/- slices.ContainsFunc of nodes with kept.otherwise. -/
import Derived.Test.YtdfhhbncmdpoeaaClOth
import Derived.Test.YtdfhhbncmdpoeaaTreeB
namespace Go.Proofs.Ytdfhhbncmdpoeaa
open Go.RowKit

/-- Nodes as the walk of them takes them. -/
def NdsOk (ps : List Gr.Pr) (nd : List (Int × List Int)) : Prop := ∀ x ∈ nd, ∃ (i : Nat) (row : List Nat), x = ((i : Int), ns row) ∧ NodeOk ps i row
def OthersP (g : Gr.Gm) (P : List St4) (nd : List (Int × List Int)) : Prop := ∃ (i : Nat) (row : List Nat), ((i : Int), ns row) ∈ nd ∧ OtherP g P i row
theorem others_at {g : Gr.Gm} {P : List St4} {nd : List (Int × List Int)} {j i : Nat} {row : List Nat} (hj : j < nd.length) (e : nd[j]'hj = ((i : Int), ns row)) (h1 : ¬ OthersP g P (nd.take j)) : (OtherP g P i row → OthersP g P nd) ∧ (¬ OtherP g P i row → ¬ OthersP g P (nd.take (j + 1))) := by
  refine ⟨fun h => ⟨i, row, by rw [← e]; exact List.getElem_mem hj, h⟩, fun h => ?_⟩
  rintro ⟨i2, row2, h2, h3⟩
  rw [take_snoc hj, List.mem_append, List.mem_singleton, e] at h2
  rcases h2 with h2 | h2
  · exact h1 ⟨i2, row2, h2, h3⟩
  · injection h2 with h4 h5
    rw [Int.ofNat.inj h4, ns_inj h5] at h3
    exact h h3
set_option maxRecDepth 100000 in
set_option maxHeartbeats 2000000 in
theorem indexo_any (G : Kg) (ps : List Gr.Pr) (base : Nat) (K : Kw) (V : Int × Nat → Value) (P : List St4) (B : Nat) (xs : List Int) (An : Option Addr) (ln cn : Nat) (nd : List (Int × List Int)) (B2 : Nat) (w : World) (h : ClE G ps base K V P B xs w)
    (hn : NdsOk ps nd) (hln : ln = nd.length) (hmax : ln ≤ 2000) (hrd : NRd w B2 An nd) (hB2 : B2 ≤ w.heap.size) :
    Calls Try.prog 44 #[.slice An ln cn, .func (.func 26) #[.pointer (some ⟨K.p, 0, none⟩)] #[]] w fun e w' => ∃ r : Int, e = .returned (.int .i64 r) ∧ (0 ≤ r ↔ OthersP ⟨G.t, G.n, G.s, ps⟩ P nd) ∧ Bl w w' := by
  have HL := Lib.hid hln
  have HE := Lib.hid h
  have HN := Lib.hid hn
  obtain ⟨hs, ehs, hrh⟩ := hrd.rows
  have HR := Lib.hid (fun (wx : World) (hb : Bl w wx) => (hrh.bl hB2 hb).rd)
  have HEh := Lib.hid ehs
  clear h hln hn hrd hrh ehs
  go_enter Try.func44, Try.ntmps44
  go_wp2_with fail
  go_loopw [8] (fun i wr => ∃ k : Nat, k ≤ ln ∧ i = .int .i64 k ∧ Hid (¬ OthersP ⟨G.t, G.n, G.s, ps⟩ P (nd.take k)) ∧ Hid (Bl w wr)) (fun i _ => ln - (intOf i).toNat)
  case atStart => exact ⟨0, Nat.zero_le _, rfl, (fun ⟨i, row, h1, _⟩ => by simp at h1), Bl.refl w⟩
  case round =>
    obtain ⟨k, hk, rfl, HT, HB⟩ := hrel
    by_cases hlt : k < ln
    · have hj : k < nd.length := by have := HL.out; omega
      obtain ⟨i, row, e, hok⟩ := HN.out _ (List.getElem_mem hj)
      have HStep := Lib.hid (others_at hj e HT.out)
      have hj2 : k < (hs.map Nh.nd).length := by rw [HEh.out]; exact hj
      obtain ⟨b, off, Ar, cr, rfl, hbB, q0, q1, hrr⟩ := HR.out _ HB.out k hj2
      have e2 : (hs.map Nh.nd).getD k (0, []) = ((i : Int), ns row) := by rw [HEh.out, List.getD_eq_getElem?_getD, List.getElem?_eq_getElem hj]; exact e
      rw [e2] at q0 q1 hrr
      simp only at q0 q1 hrr
      have HC := Lib.hid (otherwise_any G ps base K V P B xs i row Ar (ns row).length cr B2 wr (HE.out.bl HB.out) hok (ns_len row) hrr (Nat.le_trans hB2 HB.out.size))
      generalize (ns row).length = nr at *
      have hbl : b < wr.heap.size := Nat.lt_of_lt_of_le hbB (Nat.le_trans hB2 HB.out.size)
      have j0 : (0 : Int) ≤ (k : Int) := by omega
      have j1 : (k : Int) < (ln : Int) := by omega
      clear hrr hok e e2 hj hj2
      go_wp2_with fail
      refine HC.out.mono ?_
      rintro e w1 ⟨b1, rfl, hiff, hb1⟩
      have HB1 := Lib.hid (HB.out.trans hb1); clear hb1 HC
      cases b1 with
      | true =>
        have HX := Lib.hid (HStep.out.1 (hiff.1 rfl))
        clear hiff
        go_wp2_with fail
        go_ret
        exact ⟨_, rfl, ⟨fun _ => HX.out, fun _ => by omega⟩, HB1.out⟩
      | false =>
        have HX := Lib.hid (HStep.out.2 (fun h => by have := hiff.2 h; cases this))
        clear hiff
        go_wp2_with fail
        go_roundw
        case rel => exact ⟨k + 1, by omega, by go_num, HX.out, HB1.out⟩
        case measure => simp [intOf]; omega
    · go_wp2_with fail
      go_ret
      refine ⟨-1, rfl, ⟨fun h => absurd h (by decide), fun h => ?_⟩, HB.out⟩
      have h9 := HT.out
      rw [List.take_of_length_le (by have := HL.out; omega)] at h9
      exact (h9 h).elim
set_option maxRecDepth 100000 in
set_option maxHeartbeats 1000000 in
theorem others_any (G : Kg) (ps : List Gr.Pr) (base : Nat) (K : Kw) (V : Int × Nat → Value) (P : List St4) (B : Nat) (xs : List Int) (An : Option Addr) (ln cn : Nat) (nd : List (Int × List Int)) (B2 : Nat) (w : World) (h : ClE G ps base K V P B xs w)
    (hn : NdsOk ps nd) (hln : ln = nd.length) (hmax : ln ≤ 2000) (hrd : NRd w B2 An nd) (hB2 : B2 ≤ w.heap.size) :
    Calls Try.prog 25 #[.slice An ln cn, .func (.func 26) #[.pointer (some ⟨K.p, 0, none⟩)] #[]] w fun e w' => ∃ b : Bool, e = .returned (.bool b) ∧ (b = true ↔ OthersP ⟨G.t, G.n, G.s, ps⟩ P nd) ∧ Bl w w' := by
  have HC := Lib.hid (indexo_any G ps base K V P B xs An ln cn nd B2 w h hn hln hmax hrd hB2)
  clear h hn hln hrd
  go_enter Try.func25, Try.ntmps25
  go_wp2_with fail
  refine HC.out.mono ?_
  rintro e w1 ⟨r, rfl, hf, hb1⟩
  have HB1 := Lib.hid hb1
  have HD := Lib.hid hf
  clear hb1 hf
  go_wp2_with fail
  go_ret
  exact ⟨_, rfl, by rw [← HD.out]; exact decide_eq_true_iff, HB1.out⟩
end Go.Proofs.Ytdfhhbncmdpoeaa
