/- GramOf: each production is just one nonterminal's. -/
import Derived.Test.YtlfobnpkfloolaaGAwake
import Derived.Test.YtlfobnpkfloolaaGOpen
namespace Go.Proofs.Ytlfobnpkfloolaa
open Go.RowKit

/-- How many productions are of nonterminals below k. -/
def cntB (ps : List Gr.Pr) (k : Nat) : Nat := (ps.filter fun p => decide (p.left < (k : Int))).length
theorem ofK_count (ps : List Gr.Pr) (non : Int) : ∀ k, k ≤ ps.length → (ofK ps non k).length = ((ps.take k).filter fun p => decide (p.left = non)).length
  | 0, _ => rfl
  | k + 1, h => by
    have ih := ofK_count ps non k (by omega)
    rw [List.take_succ_eq_append_getElem (by omega), List.filter_append, List.length_append]
    by_cases e : ps[k].left = non
    · rw [ofK_yes (by omega) e, List.length_append, ih]; simp [e]
    · rw [ofK_no (by omega) e, ih]; simp [e]
theorem filter_len {α : Type} (f : α → Bool) (x : α) (l : List α) : ((x :: l).filter f).length = (if f x then 1 else 0) + (l.filter f).length := by
  rw [List.filter_cons]
  split
  · rw [List.length_cons]; omega
  · omega
theorem cntB_next (ps : List Gr.Pr) (k : Nat) : cntB ps (k + 1) = cntB ps k + (ofK ps (k : Int) ps.length).length := by
  rw [ofK_count ps _ _ (Nat.le_refl _), List.take_length]
  unfold cntB
  induction ps with
  | nil => rfl
  | cons p ps ih =>
    rw [filter_len, filter_len, filter_len, ih]
    have e : (if decide (p.left < ((k + 1 : Nat) : Int)) = true then 1 else 0) = (if decide (p.left < (k : Int)) = true then 1 else 0) + (if decide (p.left = (k : Int)) = true then 1 else 0) := by
      simp only [decide_eq_true_eq]
      split <;> split <;> split <;> omega
    rw [e]
    omega
theorem cntB_zero {ps : List Gr.Pr} (h : ∀ p ∈ ps, 0 ≤ p.left) : cntB ps 0 = 0 := by
  unfold cntB
  rw [List.length_eq_zero_iff, List.filter_eq_nil_iff]
  intro p hp
  have := h p hp
  simp
  omega
theorem cntB_all {ps : List Gr.Pr} {n : Nat} (h : ∀ p ∈ ps, p.left < (n : Int)) : cntB ps n = ps.length := by
  unfold cntB
  rw [List.filter_eq_self.2 fun p hp => by simpa using h p hp]
theorem cntB_le (ps : List Gr.Pr) (k : Nat) : cntB ps k ≤ ps.length := List.length_filter_le _ _
theorem ofK_none {ps : List Gr.Pr} {non : Int} (h : ∀ p ∈ ps, p.left ≠ non) : ofK ps non ps.length = [] := by
  have := ofK_count ps non ps.length (Nat.le_refl _)
  rw [List.take_length, List.filter_eq_nil_iff.2 fun p hp => by simpa using h p hp] at this
  exact List.eq_nil_of_length_eq_zero this
theorem ofK_mem {ps : List Gr.Pr} {non : Int} {k i : Nat} (h : i ∈ ofK ps non k) : ∃ hi : i < ps.length, i < k ∧ ps[i].left = non := by
  unfold ofK at h
  rw [List.mem_filter, List.mem_range] at h
  obtain ⟨h1, h2⟩ := h
  cases hp : ps[i]? with
  | none => rw [hp] at h2; cases h2
  | some p =>
    rw [hp] at h2
    obtain ⟨hi, e⟩ := List.getElem?_eq_some_iff.1 hp
    refine ⟨hi, h1, ?_⟩
    rw [e]
    simpa using h2
theorem ofK_rise {ps : List Gr.Pr} {non : Int} {k : Nat} (j x y : Nat) (hx : (ofK ps non k)[j]? = some x) (hy : (ofK ps non k)[j + 1]? = some y) : x < y := by
  have hs : (ofK ps non k).Pairwise (· < ·) := List.Pairwise.filter _ List.pairwise_lt_range
  obtain ⟨h1, rfl⟩ := List.getElem?_eq_some_iff.1 hx
  obtain ⟨h2, rfl⟩ := List.getElem?_eq_some_iff.1 hy
  exact List.pairwise_iff_getElem.1 hs j (j + 1) h1 h2 (by omega)
/-- The last number that was met. -/
def lastOf (l : List Nat) : Nat → Int
  | 0 => -1
  | j + 1 => match l[j]? with | some n => (n : Int) | none => -1

theorem lastOf_succ {l : List Nat} {j : Nat} (h : j < l.length) : lastOf l (j + 1) = (l[j] : Int) := by
  show (match l[j]? with | some n => (n : Int) | none => -1) = _
  rw [List.getElem?_eq_getElem h]

set_option maxRecDepth 100000 in
set_option maxHeartbeats 4000000 in
theorem gramOf_any (t n s other : Int) (A : Option Addr) (c : Nat) (ps : List Gr.Pr) (w : World) (hr : Prs w w.heap.size A ps) (hmax : ps.length ≤ 9223372036854775807) :
    Calls Try.prog 5 #[.agg #[.int .i64 t, .int .i64 n, .int .i64 s, .slice A ps.length c], .int .i64 other] w fun e w' => e = .returned (.bool true) ∧ Bl w w' := by
  have HA := Lib.hid hr; clear hr
  have HB0 : Hid (Bl w (w.alloc (.cells #[.int .i64 t, .int .i64 n, .int .i64 s, .slice A ps.length c] 24))) := (Bl.refl w).alloc _
  have HK0 := Lib.hid (Bk.new w 24 #[.int .i64 t, .int .i64 n, .int .i64 s, .slice A ps.length c])
  go_enter Try.func5, Try.ntmps5
  go_wp2_with fail
  refine (gawake_any _).mono ?_
  rintro e w1 ⟨rfl, hb1⟩
  have HB1 := Lib.hid (HB0.out.trans hb1)
  have HK1 := Lib.hid (HK0.out.bl hb1)
  have k0 : w1.cell? ⟨w.heap.size, 0, none⟩ = some (.int .i64 t) := HK1.out.cell 0
  have k1 : w1.cell? ⟨w.heap.size, 1, none⟩ = some (.int .i64 n) := HK1.out.cell 1
  have k2 : w1.cell? ⟨w.heap.size, 2, none⟩ = some (.int .i64 s) := HK1.out.cell 2
  have k3 : w1.cell? ⟨w.heap.size, 3, none⟩ = some (.slice A ps.length c) := HK1.out.cell 3
  clear hb1
  go_wp2_with fail
  refine (glarge_any t n s A ps.length c ps _ w.heap.size rfl hmax (HA.out.bl (Nat.le_refl _) HB1.out) HB1.out.size).mono ?_
  rintro e w2 ⟨rfl, hb2⟩
  have HB2 := Lib.hid (HB1.out.trans hb2)
  have HK2 := Lib.hid (HK1.out.bl hb2)
  clear hb2 k0 k1 k2 k3
  have k0 : w2.cell? ⟨w.heap.size, 0, none⟩ = some (.int .i64 t) := HK2.out.cell 0
  have k1 : w2.cell? ⟨w.heap.size, 1, none⟩ = some (.int .i64 n) := HK2.out.cell 1
  have k2 : w2.cell? ⟨w.heap.size, 2, none⟩ = some (.int .i64 s) := HK2.out.cell 2
  have k3 : w2.cell? ⟨w.heap.size, 3, none⟩ = some (.slice A ps.length c) := HK2.out.cell 3
  cases hlg : lgB ps with
  | true =>
    go_wp2_with fail
    go_ret
    exact ⟨rfl, HB2.out⟩
  | false =>
    obtain ⟨hl1, hl2⟩ := lgB_false hlg
    clear hlg hl2
    go_wp2_with fail
    refine (right_any t n s A ps.length c ps _ w.heap.size rfl hmax (HA.out.bl (Nat.le_refl _) HB2.out) HB2.out.size).mono ?_
    rintro e w3 ⟨rfl, hb3⟩
    have HB3 := Lib.hid (HB2.out.trans hb3)
    have HK3 := Lib.hid (HK2.out.bl hb3)
    clear hb3 k0 k1 k2 k3
    have k1 : w3.cell? ⟨w.heap.size, 1, none⟩ = some (.int .i64 n) := HK3.out.cell 1
    cases hok : okB ⟨t, n, s, ps⟩ with
    | false =>
      go_wp2_with fail
      go_ret
      exact ⟨rfl, HB3.out⟩
    | true =>
      obtain ⟨_, _, h3, h4, _, _, _, h8⟩ := (okB_iff _).1 hok
      simp only at h3 h4 h8
      have HLo : Hid (∀ p ∈ ps, 0 ≤ p.left ∧ p.left < n) := fun p hp => ⟨(h8 p hp).1, (h8 p hp).2.1⟩
      clear h8 hok
      obtain ⟨n, rfl⟩ : ∃ m : Nat, n = (m : Int) := ⟨n.toNat, by omega⟩
      have HC0 := Lib.hid (cntB_zero fun p hp => (HLo.out p hp).1)
      have HCn := Lib.hid (cntB_all fun p hp => (HLo.out p hp).2)
      have HCl := Lib.hid (cntB_le ps)
      go_wp2_with fail
      go_loopw [5, 21] (fun m i wr => ∃ k : Nat, k ≤ n ∧ i = .int .i64 k ∧ m = .int .i64 (cntB ps k : Nat) ∧ Hid (Bl w wr) ∧ Hid (Bk wr w.heap.size 24 #[.int .i64 t, .int .i64 n, .int .i64 s, .slice A ps.length c])) (fun _ i _ => n - (intOf i).toNat)
      case atStart => exact ⟨0, Nat.zero_le _, rfl, by rw [HC0.out]; rfl, HB3, HK3⟩
      case round =>
        obtain ⟨k, hk, rfl, rfl, HB, HK⟩ := hrel
        have q0 : wr.cell? ⟨w.heap.size, 0, none⟩ = some (.int .i64 t) := HK.out.cell 0
        have q1 : wr.cell? ⟨w.heap.size, 1, none⟩ = some (.int .i64 n) := HK.out.cell 1
        have q2 : wr.cell? ⟨w.heap.size, 2, none⟩ = some (.int .i64 s) := HK.out.cell 2
        have q3 : wr.cell? ⟨w.heap.size, 3, none⟩ = some (.slice A ps.length c) := HK.out.cell 3
        have hcl := HCl.out k
        by_cases hlt : k < n
        · go_wp2_with fail
          refine (of_any t n s k A ps.length c ps _ w.heap.size rfl (by omega) (HA.out.bl (Nat.le_refl _) HB.out) HB.out.size).mono ?_
          rintro e w4 ⟨Ao, co, rfl, _, ho4, hb4⟩
          have HB4 := Lib.hid (HB.out.trans hb4)
          have HK4 := Lib.hid (HK.out.bl hb4)
          have HO4 := Lib.hid (Rd.own ho4)
          have HNx := Lib.hid (cntB_next ps k)
          have HMem := Lib.hid (fun i (h : i ∈ ofK ps (k : Int) ps.length) => ofK_mem h)
          have HRise := Lib.hid (fun j x y hx hy => ofK_rise (ps := ps) (non := (k : Int)) (k := ps.length) j x y hx hy)
          have hol := ofK_len ps (k : Int) ps.length
          have hnl := ns_len (ofK ps (k : Int) ps.length)
          rw [hnl]
          rw [hnl] at ho4
          clear ho4 hb4 q0 q1 q2 q3 hnl
          generalize ofK ps (k : Int) ps.length = L at *
          have r3 : w4.cell? ⟨w.heap.size, 3, none⟩ = some (.slice A ps.length c) := HK4.out.cell 3
          go_wp2_with fail
          go_loop [5, 7, 28] (fun m z i => ∃ j : Nat, j ≤ L.length ∧ i = .int .i64 j ∧ z = .int .i64 (lastOf L j) ∧ m = .int .i64 ((cntB ps k + j : Nat) : Int)) (fun _ _ i => L.length - (intOf i).toNat)
          case atStart => exact ⟨0, Nat.zero_le _, rfl, rfl, rfl⟩
          case round =>
            obtain ⟨j, hjl, rfl, rfl, rfl⟩ := hrel
            by_cases hlt2 : j < L.length
            · obtain ⟨b, off, rfl, _, d9⟩ := HO4.out.int (j := j) (by rw [ns_len]; exact hlt2)
              have d0 : w4.cell? ⟨b, off + j, none⟩ = some (.int .i64 (L[j] : Nat)) := by simpa [ns] using d9
              clear d9
              obtain ⟨hi, _, hle⟩ := HMem.out _ (List.getElem_mem hlt2)
              have hla : lastOf L j < (L[j] : Int) := by
                cases j with
                | zero => show (-1 : Int) < _; omega
                | succ j =>
                  have := HRise.out j _ _ (List.getElem?_eq_getElem (by omega)) (List.getElem?_eq_getElem hlt2)
                  rw [lastOf_succ (by omega)]
                  omega
              have hln : Hid (lastOf L (j + 1) = (L[j] : Int)) := lastOf_succ hlt2
              generalize L[j] = i at *
              obtain ⟨b2, off2, Ax, cx, rfl, hb2, _, e0, _⟩ := (HA.out.bl (Nat.le_refl _) HB4.out).at_ hi
              rw [hle] at e0
              have hi0 : (0 : Int) ≤ (i : Int) := by omega
              have hi1 : (i : Int) < (ps.length : Int) := by omega
              have hkk : ((k : Int) != (k : Int)) = false := by simp
              clear hle
              go_wp2_with fail
              go_round
              case rel => exact ⟨j + 1, by omega, by go_num, by rw [hln.out], by go_num⟩
              case measure => simp [intOf]; omega
            · have hj : j = L.length := by omega
              subst hj
              go_wp2_with fail
              go_roundw
              case rel => exact ⟨k + 1, by omega, by go_num, by rw [HNx.out], HB4, HK4⟩
              case measure => simp [intOf]; omega
        · have hkn : k = n := by omega
          subst hkn
          have hall : ((cntB ps k : Nat) : Int) = (ps.length : Int) := by rw [HCn.out]
          by_cases ho : 0 ≤ other
          · by_cases ho2 : other < (k : Int)
            · go_wp2_with fail
              go_ret
              exact ⟨by rw [hall]; simp, HB.out⟩
            · have HNo : Hid (ns (ofK ps other ps.length) = []) := by
                unfold Hid; rw [ofK_none fun p hp e => by have := HLo.out p hp; omega]; rfl
              go_wp2_with fail
              refine (of_any t k s other A ps.length c ps _ w.heap.size rfl (by omega) (HA.out.bl (Nat.le_refl _) HB.out) HB.out.size).mono ?_
              rintro e w4 ⟨Ao, co, rfl, _, _, hb4⟩
              rw [HNo.out]
              have HB4 := Lib.hid (HB.out.trans hb4); clear hb4
              go_wp2_with fail
              go_ret
              exact ⟨rfl, HB4.out⟩
          · have HNo : Hid (ns (ofK ps other ps.length) = []) := by
              unfold Hid; rw [ofK_none fun p hp e => by have := HLo.out p hp; omega]; rfl
            go_wp2_with fail
            refine (of_any t k s other A ps.length c ps _ w.heap.size rfl (by omega) (HA.out.bl (Nat.le_refl _) HB.out) HB.out.size).mono ?_
            rintro e w4 ⟨Ao, co, rfl, _, _, hb4⟩
            rw [HNo.out]
            have HB4 := Lib.hid (HB.out.trans hb4); clear hb4
            go_wp2_with fail
            go_ret
            exact ⟨rfl, HB4.out⟩
end Go.Proofs.Ytlfobnpkfloolaa
