/- The reference's row (layer 8): from a place, to which places tables lead, one behind the other. -/
import Derived.Test.YtmdepbgcgkifpaaHTab
namespace Go.Proofs.Ytmdepbgcgkifpaa
open Go.RowKit

/-- What it leaves: a row of bools, in a new block. -/
def BPost (m : Nat) (h : Nat → Bool) (w : World) (e : Ending) (w' : World) : Prop :=
  ∃ g c, e = .returned (.slice (some ⟨g, 0, none⟩) m c) ∧ RdP w' (fun b => w.heap.size ≤ b ∧ b < w'.heap.size) (some ⟨g, 0, none⟩) (bls m h) ∧ Bl w w'
theorem bl_block {w w' : World} (h : Bl w w') {b : Nat} (hb : b < w.heap.size) : w'.heap[b]? = w.heap[b]? := Below.block h b hb

theorem RdP.at0 {w : World} {P : Nat → Prop} {g : Nat} {xs : List Value} (h : RdP w P (some ⟨g, 0, none⟩) xs) {j : Nat} (hj : j < xs.length) : w.cell? ⟨g, j, none⟩ = some xs[j] ∧ P g := by
  obtain ⟨b, off, e, hb, hc⟩ := h.cell hj
  injection e with e
  injection e with e1 e2
  subst e1 e2
  rw [Nat.zero_add] at hc
  exact ⟨hc, hb⟩
theorem RdP.bls0 {w : World} {P : Nat → Prop} {g m : Nat} {f : Nat → Bool} (h : RdP w P (some ⟨g, 0, none⟩) (bls m f)) {j : Nat} (hj : j < m) : w.cell? ⟨g, j, none⟩ = some (.bool (f j)) ∧ P g := by
  have := h.at0 (j := j) (by rw [bls_len]; exact hj)
  rw [bls_get] at this
  exact this

set_option maxRecDepth 100000 in
set_option maxHeartbeats 4000000 in
theorem row8_any (A : Option Addr) (len c : Nat) (fs : List (Nat → Nat → Bool)) (from_ size : Nat) (w : World) (hlen : len = fs.length) (hmax : len ≤ 1000000000) (hfrom : from_ ≤ size) (hsz : size ≤ 1000)
    (hr : Row3 w (fun b => b < w.heap.size) A (size + 1) fs) :
    Calls Try.prog 30 #[.slice A len c, .int .i64 from_, .int .i64 size] w (BPost (size + 1) (walkF fs (upd (fun _ => false) from_ true)) w) := by
  obtain ⟨i0, hi, hz0, hz1, hz2⟩ := info_parts bool_info
  have HL := Lib.hid hlen; clear hlen
  have HR := Lib.hid hr; clear hr
  go_enter Try.func30, Try.ntmps30
  go_wp2_with (refine wpList_make_full _ rfl (.tmp 13) (.tmp 13) 55 rfl w.heap.size 4 i0 (.bool false) 1 Try.underlying55 hi hz0 hz1 .i64 .i64 ((size : Int) + 1) ((size : Int) + 1) (size + 1) rfl rfl (by omega) (by omega) (by rw [hz2]; omega) (by simp only [maxLen]; omega) (Nat.le_refl _) ?_; intro w1 hown1 hg1; rw [← bls_false] at hown1; have HO1 := Lib.hid hown1; have HB1 : Hid (Bl w w1) := (Bl.refl w).grown hg1 (by simp); have kf := hown1.frozenAt from_; have kc := (hown1.cellAt from_ (by omega)).trans (bls_at _ (show from_ < size + 1 by omega)); have klt := (hown1.lt _ rfl).2; clear hown1 hg1)
  have HO2 := Lib.hid (HO1.out.stored from_ (.bool true)).1
  have HB2 : Hid (Bl w (w1.setCell ⟨w.heap.size, from_, none⟩ (.bool true))) := Bl.fr HB1.out ((Fr.refl (fun k => k = w.heap.size) w1).own _ _) (fun i hi e => by omega)
  have HA0 : Hid (RdP (w1.setCell ⟨w.heap.size, from_, none⟩ (.bool true)) (fun b => w.heap.size ≤ b ∧ b < (w1.setCell ⟨w.heap.size, from_, none⟩ (.bool true)).heap.size) (some ⟨w.heap.size, 0, none⟩) (bls (size + 1) (walkF (fs.take 0) (upd (fun _ => false) from_ true)))) := by
    have h := HO2.out
    rw [bls_set] at h
    exact RdP.of_own h fun b h1 h2 => ⟨h1, h2⟩
  generalize hat : upd (fun _ => false) from_ true = at0 at *
  have HAT := Lib.hid hat; clear hat
  clear HO1 HO2 HB1 kf kc klt
  go_loopw [7, 8] (fun v i wr => ∃ k g cg : Nat, k ≤ len ∧ v = .slice (some ⟨g, 0, none⟩) (size + 1) cg ∧ i = .int .i64 k ∧ Hid (RdP wr (fun b => w.heap.size ≤ b ∧ b < wr.heap.size) (some ⟨g, 0, none⟩) (bls (size + 1) (walkF (fs.take k) at0))) ∧ Hid (Bl w wr)) (fun _ i _ => len - (intOf i).toNat)
  case atStart => exact ⟨0, _, _, Nat.zero_le _, rfl, rfl, HA0.out, HB2.out⟩
  case round =>
    obtain ⟨k, g, cg, hk, rfl, rfl, HAk, HBk⟩ := hrel
    obtain ⟨wo, rfl⟩ : ∃ wo : World, wo = wr := ⟨_, rfl⟩
    by_cases hlt : k < len
    · have hj : k < fs.length := by have := HL.out; omega
      have HNext := Lib.hid (walkF_succ hj at0)
      generalize walkF (fs.take k) at0 = atk at *
      have HRd : Hid (∀ W : World, Bl wo W → ∀ {a b : Nat}, a < size + 1 → b < size + 1 → ∃ b0 o0 b1 o1 c1 b2 o2 c2, A = some ⟨b0, o0, none⟩ ∧ b0 < wo.heap.size ∧
          W.cell? ⟨b0, o0 + k, none⟩ = some (.slice (some ⟨b1, o1, none⟩) (size + 1) c1) ∧ b1 < wo.heap.size ∧ W.cell? ⟨b1, o1 + a, none⟩ = some (.slice (some ⟨b2, o2, none⟩) (size + 1) c2) ∧ b2 < wo.heap.size ∧ W.cell? ⟨b2, o2 + b, none⟩ = some (.bool (fs[k] a b))) := by
        intro W hb a b ha hb2
        have hsz0 : w.heap.size ≤ wo.heap.size := HBk.out.size
        obtain ⟨b0, o0, b1, o1, c1, b2, o2, c2, e, p0, h0, p1, h1, p2, h2⟩ := (HR.out.keep (fun b h => bl_block (HBk.out.trans hb) h)).read hj ha hb2
        exact ⟨b0, o0, b1, o1, c1, b2, o2, c2, e, by omega, h0, by omega, h1, by omega, h2⟩
      generalize fs[k] = f at *
      clear hj
      go_wp2_with (refine wpList_make_full _ rfl (.tmp 25) (.tmp 25) 55 rfl wo.heap.size 4 i0 (.bool false) 1 Try.underlying55 hi hz0 hz1 .i64 .i64 ((size : Int) + 1) ((size : Int) + 1) (size + 1) rfl rfl (by omega) (by omega) (by rw [hz2]; omega) (by simp only [maxLen]; omega) (Nat.le_refl _) ?_; intro w3 hown3 hg3; rw [← bls_false] at hown3; have HO3 : Hid (w3.ownsRow wo.heap.size 4 1 (.slice (some ⟨wo.heap.size, 0, none⟩) (size + 1) (size + 1)) (size + 1) (bls (size + 1) (stepTo f atk 0))) := hown3; have HB3 : Hid (Bl wo w3) := (Bl.refl wo).grown hg3 (by simp); clear hown3 hg3)
      go_loopw [10] (fun i wr => ∃ a : Nat, a ≤ size + 1 ∧ i = .int .i64 a ∧ Hid (wr.ownsRow wo.heap.size 4 1 (.slice (some ⟨wo.heap.size, 0, none⟩) (size + 1) (size + 1)) (size + 1) (bls (size + 1) (stepTo f atk a))) ∧ Hid (Bl wo wr)) (fun i _ => size + 1 - (intOf i).toNat)
      case atStart => exact ⟨0, Nat.zero_le _, rfl, HO3.out, HB3.out⟩
      case round =>
        obtain ⟨a, ha, rfl, HOa, HBa⟩ := hrel
        by_cases hlt2 : a ≤ size
        · go_wp2_with fail
          go_loopw [11] (fun i wr => ∃ j : Nat, a ≤ j ∧ j ≤ size + 1 ∧ i = .int .i64 j ∧ Hid (atk a = false → j = a) ∧ Hid (wr.ownsRow wo.heap.size 4 1 (.slice (some ⟨wo.heap.size, 0, none⟩) (size + 1) (size + 1)) (size + 1) (bls (size + 1) (inTo f atk a j))) ∧ Hid (Bl wo wr)) (fun i _ => size + 1 - (intOf i).toNat)
          case atStart => exact ⟨a, Nat.le_refl _, by omega, rfl, fun _ => rfl, by rw [inTo_start]; exact HOa.out, HBa.out⟩
          case round =>
            obtain ⟨j, haj, hj, rfl, HZ, HOj, HBj⟩ := hrel
            by_cases hlt3 : j ≤ size
            · have hal : a < size + 1 := by omega
              have hjl : j < size + 1 := by omega
              obtain ⟨ka, _, kg⟩ := (HAk.out.keep (fun b hb => bl_block HBj.out hb.2)).bls0 hal
              have hsz : wo.heap.size ≤ wr.heap.size := HBj.out.size
              have kgl : g < wr.heap.size := by omega
              cases hat : atk a with
              | false =>
                rw [hat] at ka
                have HX : Hid (wr.ownsRow wo.heap.size 4 1 (.slice (some ⟨wo.heap.size, 0, none⟩) (size + 1) (size + 1)) (size + 1) (bls (size + 1) (stepTo f atk (a + 1)))) := by
                  have h := HOj.out
                  rw [HZ.out hat, inTo_start, ← stepTo_skip f atk hat] at h
                  exact h
                clear hat
                go_wp2_with fail
                go_roundw
                case rel => exact ⟨a + 1, by omega, by go_num, HX.out, HBj.out⟩
                case measure => simp [intOf]; omega
              | true =>
                rw [hat] at ka
                have HT := Lib.hid hat; clear hat
                obtain ⟨b0, o0, b1, o1, c1, b2, o2, c2, rfl, p0, h0, p1, h1, p2, h2⟩ := HRd.out wr HBj.out hal hjl
                have p0' : b0 < wr.heap.size := by omega
                have p1' : b1 < wr.heap.size := by omega
                have p2' : b2 < wr.heap.size := by omega
                cases hf : f a j with
                | false =>
                  rw [hf] at h2
                  have HX : Hid (wr.ownsRow wo.heap.size 4 1 (.slice (some ⟨wo.heap.size, 0, none⟩) (size + 1) (size + 1)) (size + 1) (bls (size + 1) (inTo f atk a (j + 1)))) := by
                    rw [inTo_skip f atk hf]; exact HOj.out
                  clear hf
                  go_wp2_with fail
                  go_roundw
                  case rel => exact ⟨j + 1, by omega, by omega, by go_num, (fun h => by first | cases h | (rw [HT.out] at h; cases h)), HX.out, HBj.out⟩
                  case measure => simp [intOf]; omega
                | true =>
                  rw [hf] at h2
                  have hst := HOj.out.stored j (.bool true)
                  have HX : Hid ((wr.setCell ⟨wo.heap.size, j, none⟩ (.bool true)).ownsRow wo.heap.size 4 1 (.slice (some ⟨wo.heap.size, 0, none⟩) (size + 1) (size + 1)) (size + 1) (bls (size + 1) (inTo f atk a (j + 1)))) := by
                    rw [inTo_put f atk haj hf, ← bls_set]; exact hst.1
                  have HY : Hid (Bl wo (wr.setCell ⟨wo.heap.size, j, none⟩ (.bool true))) := Bl.fr HBj.out ((Fr.refl (fun k => k = wo.heap.size) wr).own _ _) (fun i hi e => by omega)
                  have kf := HOj.out.frozenAt j
                  have kc := (HOj.out.cellAt j (by omega)).trans (bls_at _ hjl)
                  have klt := (HOj.out.lt _ rfl).2
                  clear hf hst
                  go_wp2_with fail
                  go_roundw
                  case rel => exact ⟨j + 1, by omega, by omega, by go_num, (fun h => by first | cases h | (rw [HT.out] at h; cases h)), HX.out, HY.out⟩
                  case measure => simp [intOf]; omega
            · have hjm : j = size + 1 := by omega
              have HX : Hid (wr.ownsRow wo.heap.size 4 1 (.slice (some ⟨wo.heap.size, 0, none⟩) (size + 1) (size + 1)) (size + 1) (bls (size + 1) (stepTo f atk (a + 1)))) := by
                have h := HOj.out
                have ht : atk a = true := by
                  cases e : atk a with
                  | true => rfl
                  | false => have := HZ.out e; omega
                rw [hjm] at h
                rw [bls_congr (fun b hb => inTo_end f atk ht hb)] at h
                exact h
              go_wp2_with fail
              go_roundw
              case rel => exact ⟨a + 1, by omega, by go_num, HX.out, HBj.out⟩
              case measure => simp [intOf]; omega
        · have HX : Hid (RdP wr (fun b => w.heap.size ≤ b ∧ b < wr.heap.size) (some ⟨wo.heap.size, 0, none⟩) (bls (size + 1) (stepF f atk))) := by
            have h := HOa.out
            rw [show a = size + 1 by omega, bls_congr (fun b hb => stepTo_end f atk hb)] at h
            have hsz0 : w.heap.size ≤ wo.heap.size := HBk.out.size
            exact RdP.of_own h fun b h1 h2 => ⟨by omega, h2⟩
          go_wp2_with fail
          go_roundw
          case rel => exact ⟨k + 1, wo.heap.size, size + 1, by omega, rfl, by go_num, by rw [HNext.out]; exact HX.out, HBk.out.trans HBa.out⟩
          case measure => simp [intOf]; omega
    · have HX : Hid (RdP wo (fun b => w.heap.size ≤ b ∧ b < wo.heap.size) (some ⟨g, 0, none⟩) (bls (size + 1) (walkF fs at0))) := by
        have h := HAk.out
        rw [List.take_of_length_le (by have := HL.out; omega)] at h
        exact h
      go_wp2_with fail
      go_ret
      exact ⟨g, cg, rfl, by rw [HAT.out]; exact HX.out, HBk.out⟩
end Go.Proofs.Ytmdepbgcgkifpaa
