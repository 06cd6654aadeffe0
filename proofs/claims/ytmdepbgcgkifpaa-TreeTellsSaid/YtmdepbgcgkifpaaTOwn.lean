/- own: nodes as the reference's. -/
import Derived.Test.YtmdepbgcgkifpaaTNds
namespace Go.Proofs.Ytmdepbgcgkifpaa
open Go.RowKit

theorem tp_rnode : (Try.prog.info? 48).map (fun i => (i.zero, i.size, i.bytes)) = some (some (.agg #[.int .i64 0, .slice none 0 0]), 2, 32) := by kernel_rfl
set_option maxRecDepth 100000 in
set_option maxHeartbeats 1000000 in
theorem own_any (A : Option Addr) (la ca : Nat) (nd : List (Int × List Int)) (w : World) (B : Nat) (hla : la = nd.length) (hmax : la ≤ 1000000) (hr : NRd w B A nd) (hB : B ≤ w.heap.size) :
    Calls Try.prog 14 #[.slice A la ca] w (OPost nd w) := by
  obtain ⟨i0, hi, hz0, hz1, hz2⟩ := info_parts tp_rnode
  obtain ⟨hs, rfl, hrh⟩ := hr.rows
  rw [List.length_map] at hla
  have HL := Lib.hid hla; clear hla hr
  have HR := Lib.hid (hrh.more hB); clear hrh hB
  go_enter Try.func14, Try.ntmps14
  go_wp2_with fail
  go_loopw [3, 9] (fun v i wr => ∃ (k : Nat) (Ao : Option Addr) (co : Nat), k ≤ la ∧ v = .slice Ao k co ∧ i = .int .i64 k ∧ Hid (wr.ownsRow w.heap.size 48 2 (.slice Ao k co) k (nhRow (hs.take k))) ∧ Hid (Bl w wr)) (fun _ i _ => la - (intOf i).toNat)
  case atStart => exact ⟨0, _, 0, Nat.zero_le _, rfl, rfl, World.ownsRow_lit w #[] 0 (Nat.le_refl _) (by simp [maxLen]) rfl, (Bl.refl w).alloc _⟩
  case round =>
    obtain ⟨k, Ao, co, hk, rfl, rfl, HO, HB⟩ := hrel
    by_cases hlt : k < la
    · have hj : k < hs.length := by have := HL.out; omega
      obtain ⟨b, off, rfl, hb, c0, c1⟩ := Rd.two (HR.out.bl (Nat.le_refl _) HB.out).1 hj
      have HT : Hid (hs.take (k + 1) = hs.take k ++ [hs[k]]) := List.take_succ_eq_append_getElem hj
      generalize hs[k] = h at *
      obtain ⟨p, row, Ax, cx⟩ := h
      simp only at c0 c1
      clear hj
      have i0' : (0 : Int) ≤ (k : Int) := by omega
      have i1' : (k : Int) < (la : Int) := by omega
      have hws : w.heap.size ≤ wr.heap.size := HB.out.size
      go_wp2_with (at_builtin; refine wpList_append_own _ rfl (.tmp 13) (.tmp 15) 34 rfl w.heap.size 48 i0 (.agg #[.int .i64 0, .slice none 0 0]) 2 32 Try.underlying34 hi hz0 hz1 hz2 rfl (by decide) (.slice Ao k co) k (nhRow (hs.take k)) rfl ((HO.out.alloc _).alloc _) ⟨wr.heap.size + 1, 0, none⟩ 1 1 [.int .i64 p, .slice Ax row.length cx] rfl rfl (by have h := cells_new (wr.alloc (.cells #[.int .i64 p, .slice Ax row.length cx] 53)) #[.int .i64 p, .slice Ax row.length cx] 48; rw [World.size_alloc] at h; exact h) (by simp [Value.oneCell']) (by simp only [maxLen]; omega) (by omega) (by simp; omega) ?_; intro v2 w2 hown2 hg2 _; obtain ⟨A2, d2, hv2, hd2⟩ := own_form hown2; subst hv2; have HB2 : Hid (Bl w w2) := ((HB.out.alloc _).alloc _).grown hg2 (fun j hj => (HO.out.lt j hj).1); have HO2 : Hid (w2.ownsRow w.heap.size 48 2 (.slice A2 (k + 1) d2) (k + 1) (nhRow (hs.take (k + 1)))) := (by rw [HT.out, nhRow_append]; exact hown2); clear hown2 hg2 hd2)
      go_roundw
      case rel => exact ⟨k + 1, A2, d2, by omega, rfl, by go_num, HO2.out, HB2.out⟩
      case measure => simp [intOf]; omega
    · have hke : k = la := by omega
      subst hke
      have HT : Hid (hs.take k = hs) := List.take_of_length_le (by have := HL.out; omega)
      go_wp2_with fail
      go_ret
      have h := HO.out
      rw [HT.out] at h
      exact ⟨Ao, k, co, rfl, by rw [List.length_map]; exact HL.out, NRh.rd ⟨(RdT.of_own h).rd, fun x hx => ((HR.out.bl (Nat.le_refl _) HB.out).more HB.out.size).2 x hx⟩, HB.out⟩
end Go.Proofs.Ytmdepbgcgkifpaa
