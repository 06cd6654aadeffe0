/- probatelaw09.Large: what is more than the laws of ranks (and later ones) look at. -/
import Derived.Test.YtpblamiiggglaaaFactS
namespace Go.Proofs.Ytpblamiiggglaaa
open Go.RowKit

/-- Is a grammar more than is looked at? -/
def lgB (ps : List Gr.Pr) : Bool := !(decide (ps.length ≤ 100) && ps.all fun p => decide (p.right.length ≤ 20))
theorem lgB_false {ps : List Gr.Pr} (h : lgB ps = false) : ps.length ≤ 100 ∧ ∀ p ∈ ps, p.right.length ≤ 20 := by
  unfold lgB at h
  simp only [Bool.not_eq_false', Bool.and_eq_true, decide_eq_true_eq, List.all_eq_true] at h
  exact h
theorem lgB_of {ps : List Gr.Pr} (h : ps.length ≤ 100) (hx : ∀ p ∈ ps, p.right.length ≤ 20) : lgB ps = false := by
  unfold lgB
  simp only [Bool.not_eq_false', Bool.and_eq_true, decide_eq_true_eq, List.all_eq_true]
  exact ⟨h, hx⟩
theorem lgB_long {ps : List Gr.Pr} (h : 100 < ps.length) : lgB ps = true := by unfold lgB; rw [decide_eq_false (by omega)]; rfl
theorem lgB_one {ps : List Gr.Pr} {k : Nat} (h : k < ps.length) (hx : 20 < ps[k].right.length) : lgB ps = true := by
  cases hl : lgB ps with
  | true => rfl
  | false => have := (lgB_false hl).2 _ (List.getElem_mem h); omega

set_option maxRecDepth 100000 in
set_option maxHeartbeats 1000000 in
theorem large9_any (t n s : Int) (A : Option Addr) (len c : Nat) (ps : List Gr.Pr) (w : World) (B : Nat) (hlen : len = ps.length) (hmax : len ≤ 9223372036854775807) (hr : Prs w B A ps) (hB : B ≤ w.heap.size) :
    Calls Try.prog 20 #[.agg #[.int .i64 t, .int .i64 n, .int .i64 s, .slice A len c]] w fun e w' => e = .returned (.bool (lgB ps)) ∧ Bl w w' := by
  have HL := Lib.hid hlen; clear hlen
  have HA := Lib.hid hr; clear hr
  have HB0 : Hid (Bl w (w.alloc (.cells #[.int .i64 t, .int .i64 n, .int .i64 s, .slice A len c] 24))) := (Bl.refl w).alloc _
  by_cases h100 : 100 < len
  · have HG : Hid (lgB ps = true) := lgB_long (by rw [← HL.out]; exact h100)
    go_enter Try.func20, Try.ntmps20
    go_wp2_with fail
    go_ret
    exact ⟨by rw [HG.out]; rfl, HB0.out⟩
  · go_enter Try.func20, Try.ntmps20
    go_wp2_with fail
    generalize hw0 : w.alloc (.cells #[.int .i64 t, .int .i64 n, .int .i64 s, .slice A len c] 24) = w0 at HB0 ⊢
    have HW0 := Lib.hid hw0; clear hw0
    go_loopw [12] (fun i wr => ∃ k : Nat, k ≤ len ∧ i = .int .i64 k ∧ Hid (∀ x ∈ ps.take k, x.right.length ≤ 20) ∧ Hid (Bl w0 wr)) (fun i _ => len - (intOf i).toNat)
    case atStart => exact ⟨0, Nat.zero_le _, rfl, by simp [Hid], Bl.refl w0⟩
    case round =>
      obtain ⟨k, hk, rfl, HF, HB⟩ := hrel
      by_cases hlt : k < len
      · have hj : k < ps.length := by have := HL.out; omega
        obtain ⟨b, off, Ax, cx, rfl, hbB, hrx, hc0, hc1⟩ := (HA.out.bl hB (HB0.out.trans HB.out)).at_ hj
        have HBad := Lib.hid (fun h => lgB_one hj h)
        have HGood := Lib.hid (all_snoc (P := fun x : Gr.Pr => x.right.length ≤ 20) hj HF.out)
        generalize ps[k] = x at *
        obtain ⟨xl, xs⟩ := x
        simp only at hc0 hc1 HBad HGood
        clear hj hrx
        by_cases hx : 20 < xs.length
        · have HG := Lib.hid (HBad.out hx)
          go_wp2_with fail
          go_ret
          exact ⟨by rw [HG.out]; rfl, (HB0.out.trans HB.out).alloc _⟩
        · have HY := Lib.hid (HGood.out (by omega))
          go_wp2_with fail
          go_roundw
          case rel => exact ⟨k + 1, by omega, by go_num, HY.out, HB.out.alloc _⟩
          case measure => simp [intOf]; omega
      · go_wp2_with fail
        go_ret
        have hg : lgB ps = false := lgB_of (by have := HL.out; omega) (by
          have h := HF.out
          rw [List.take_of_length_le (by have := HL.out; omega)] at h
          exact h)
        exact ⟨by rw [hg]; rfl, HB0.out.trans HB.out⟩
end Go.Proofs.Ytpblamiiggglaaa
