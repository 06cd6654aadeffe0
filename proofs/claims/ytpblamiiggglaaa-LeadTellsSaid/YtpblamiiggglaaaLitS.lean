/- probatelaw09.Large: what is more than the laws of ranks (and later ones) look at. -/
import Derived.Test.YtpblamiiggglaaaFactS
import Derived.Test.YtpblamiiggglaaaVQ
import Derived.Test.YtpblamiiggglaaaWMem
namespace Go.Proofs.Ytpblamiiggglaaa
open Go.RowKit

/-- Is a grammar more than is looked at? -/
def lgB (ps : List Gr.Pr) : Bool := !(decide (ps.length ≤ 100) && ps.all fun p => decide (p.right.length ≤ 20))
theorem lgB_false {ps : List Gr.Pr} (h : lgB ps = false) : ps.length ≤ 100 ∧ ∀ p ∈ ps, p.right.length ≤ 20 := by
  unfold lgB at h
  simp only [Bool.not_eq_false', Bool.and_eq_true, decide_eq_true_eq, List.all_eq_true] at h
  exact h
theorem lgB_of {ps : List Gr.Pr} (h : ps.length ≤ 100) (hx : ∀ p ∈ ps, p.right.length ≤ 20) : lgB ps = false := by
  unfold lgB
  simp only [Bool.not_eq_false', Bool.and_eq_true, decide_eq_true_eq, List.all_eq_true]
  exact ⟨h, hx⟩
theorem lgB_long {ps : List Gr.Pr} (h : 100 < ps.length) : lgB ps = true := by unfold lgB; rw [decide_eq_false (by omega)]; rfl
theorem lgB_one {ps : List Gr.Pr} {k : Nat} (h : k < ps.length) (hx : 20 < ps[k].right.length) : lgB ps = true := by
  cases hl : lgB ps with
  | true => rfl
  | false => have := (lgB_false hl).2 _ (List.getElem_mem h); omega

set_option maxRecDepth 100000 in
set_option maxHeartbeats 1000000 in
theorem large9_any (t n s : Int) (A : Option Addr) (len c : Nat) (ps : List Gr.Pr) (w : World) (B : Nat) (hlen : len = ps.length) (hmax : len ≤ 9223372036854775807) (hr : Prs w B A ps) (hB : B ≤ w.heap.size) :
    Calls Try.prog 20 #[.agg #[.int .i64 t, .int .i64 n, .int .i64 s, .slice A len c]] w fun e w' => e = .returned (.bool (lgB ps)) ∧ Bl w w' := by
  have HL := Lib.hid hlen; clear hlen
  have HA := Lib.hid hr; clear hr
  have HB0 : Hid (Bl w (w.alloc (.cells #[.int .i64 t, .int .i64 n, .int .i64 s, .slice A len c] 24))) := (Bl.refl w).alloc _
  by_cases h100 : 100 < len
  · have HG : Hid (lgB ps = true) := lgB_long (by rw [← HL.out]; exact h100)
    go_enter Try.func20, Try.ntmps20
    go_wp2_with fail
    go_ret
    exact ⟨by rw [HG.out]; rfl, HB0.out⟩
  · go_enter Try.func20, Try.ntmps20
    go_wp2_with fail
    generalize hw0 : w.alloc (.cells #[.int .i64 t, .int .i64 n, .int .i64 s, .slice A len c] 24) = w0 at HB0 ⊢
    have HW0 := Lib.hid hw0; clear hw0
    go_loopw [12] (fun i wr => ∃ k : Nat, k ≤ len ∧ i = .int .i64 k ∧ Hid (∀ x ∈ ps.take k, x.right.length ≤ 20) ∧ Hid (Bl w0 wr)) (fun i _ => len - (intOf i).toNat)
    case atStart => exact ⟨0, Nat.zero_le _, rfl, by simp [Hid], Bl.refl w0⟩
    case round =>
      obtain ⟨k, hk, rfl, HF, HB⟩ := hrel
      by_cases hlt : k < len
      · have hj : k < ps.length := by have := HL.out; omega
        obtain ⟨b, off, Ax, cx, rfl, hbB, hrx, hc0, hc1⟩ := (HA.out.bl hB (HB0.out.trans HB.out)).at_ hj
        have HBad := Lib.hid (fun h => lgB_one hj h)
        have HGood := Lib.hid (all_snoc (P := fun x : Gr.Pr => x.right.length ≤ 20) hj HF.out)
        generalize ps[k] = x at *
        obtain ⟨xl, xs⟩ := x
        simp only at hc0 hc1 HBad HGood
        clear hj hrx
        by_cases hx : 20 < xs.length
        · have HG := Lib.hid (HBad.out hx)
          go_wp2_with fail
          go_ret
          exact ⟨by rw [HG.out]; rfl, (HB0.out.trans HB.out).alloc _⟩
        · have HY := Lib.hid (HGood.out (by omega))
          go_wp2_with fail
          go_roundw
          case rel => exact ⟨k + 1, by omega, by go_num, HY.out, HB.out.alloc _⟩
          case measure => simp [intOf]; omega
      · go_wp2_with fail
        go_ret
        have hg : lgB ps = false := lgB_of (by have := HL.out; omega) (by
          have h := HF.out
          rw [List.take_of_length_le (by have := HL.out; omega)] at h
          exact h)
        exact ⟨by rw [hg]; rfl, HB0.out.trans HB.out⟩
end Go.Proofs.Ytpblamiiggglaaa
/- The reference's Same of ints: are two rows of ints one? -/
namespace Go.Proofs.Ytpblamiiggglaaa
open Go.RowKit

theorem itake_succ_eq {l r : List Int} {k : Nat} (h1 : k < l.length) (h2 : k < r.length) (h : l.take k = r.take k) (hc : l[k] = r[k]) : l.take (k + 1) = r.take (k + 1) := by
  rw [List.take_succ_eq_append_getElem h1, List.take_succ_eq_append_getElem h2, h, hc]

set_option maxRecDepth 100000 in
set_option maxHeartbeats 400000 in
theorem isame_any (A A' : Option Addr) (len len' cap cap' : Nat) (l r : List Int) (w : World) (B : Nat) (hl : len = l.length) (hl' : len' = r.length) (hmax : len ≤ 9223372036854775807)
    (hr : Rd w B A (ins l)) (hr' : Rd w B A' (ins r)) :
    Calls Try.prog 13 #[.slice A len cap, .slice A' len' cap'] w (Quiet (.bool (decide (l = r))) w) := by
  have HL := Lib.hid hl; clear hl
  have HL' := Lib.hid hl'; clear hl'
  have HR := Lib.hid hr; clear hr
  have HR' := Lib.hid hr'; clear hr'
  by_cases hne : len = len'
  · have hq : ((len : Int) != (len' : Int)) = false := by simp; omega
    have HN := Lib.hid hne; clear hne
    go_enter Try.func13, Try.ntmps13
    go_wp2
    go_loopw [5] (fun i wr => ∃ (k q : Nat), k ≤ len ∧ i = .int .i64 k ∧ wr = w.drewN q ∧ Hid (l.take k = r.take k)) (fun i _ => len - (intOf i).toNat)
    case atStart => exact ⟨0, 0, by omega, rfl, rfl, by simp [Hid]⟩
    case round =>
      obtain ⟨k, q, hk, rfl, rfl, HT⟩ := hrel
      by_cases hlt : k < len
      · have hj : k < l.length := by have := HL.out; omega
        have hj' : k < r.length := by have := HL'.out; have := HN.out; omega
        obtain ⟨b, off, rfl, _, hcell⟩ := HR.out.int hj
        obtain ⟨b', off', rfl, _, hcell'⟩ := HR'.out.int hj'
        have hlt' : k < len' := by have := HN.out; omega
        have HS := Lib.hid (itake_succ_eq hj hj' HT.out)
        have HD := Lib.hid (fun (h : l = r) => (by subst h; rfl : l[k] = r[k]))
        generalize l[k] = c at hcell HS HD
        generalize r[k] = c' at hcell' HS HD
        clear hj hj'
        by_cases hcc : c = c'
        · have hq2 : (c != c') = false := by simp [hcc]
          have HC := Lib.hid hcc; clear hcc
          go_wp2
          go_quiet (fail)
          go_wp2
          go_roundw
          case rel => exact ⟨k + 1, _, by omega, by go_num, rfl, HS.out HC.out⟩
          case measure => simp [intOf]; omega
        · have hq2 : (c != c') = true := by simpa using hcc
          have hf : decide (l = r) = false := by simp; intro h; exact hcc (HD.out h)
          have HF := Lib.hid hf; clear hf
          go_wp2
          go_quiet (fail)
          go_wp2
          go_ret
          exact ⟨by rw [HF.out]; rfl, _, World.drewN_drewN _ _ _⟩
      · go_wp2
        go_ret
        have e : l = r := by
          have h1 := HT.out; have h2 := HL.out; have h3 := HL'.out; have h4 := HN.out
          rw [List.take_of_length_le (by omega), List.take_of_length_le (by omega)] at h1
          exact h1
        exact ⟨by rw [decide_eq_true e]; rfl, _, rfl⟩
  · have hq : ((len : Int) != (len' : Int)) = true := by simp; omega
    have hf : decide (l = r) = false := by simp; rintro rfl; have := HL.out; have := HL'.out; omega
    have HF := Lib.hid hf; clear hf
    go_enter Try.func13, Try.ntmps13
    go_wp2
    go_ret
    exact ⟨by rw [HF.out]; rfl, 0, rfl⟩
end Go.Proofs.Ytpblamiiggglaaa
