/- The reference's Of alone: the productions of a nonterminal. -/
import Derived.Test.YtdfhhbncmdpoeaaGRS
namespace Go.Proofs.Ytdfhhbncmdpoeaa
open Go.RowKit

set_option maxRecDepth 100000 in
set_option maxHeartbeats 1000000 in
theorem roft_any (t n s non : Int) (A : Option Addr) (len c : Nat) (ps : List Gr.Pr) (w : World) (B : Nat) (hlen : len = ps.length) (hmax : len ≤ 1000000000) (hr : Prs w B A ps) (hB : B ≤ w.heap.size) :
    Calls Try.prog 19 #[.agg #[.int .i64 t, .int .i64 n, .int .i64 s, .slice A len c], .int .i64 non] w (IMakes (ns (ofK ps non ps.length)) w) := by
  obtain ⟨i0, hi, hz0, hz1, hz2⟩ := info_parts of_int_info
  have HL := Lib.hid hlen; clear hlen
  have HA := Lib.hid hr; clear hr
  have H0 : Hid (OfRel ps non #[.int .i64 t, .int .i64 n, .int .i64 s, .slice A len c] w 0 (.slice (some ⟨w.heap.size + 1, 0, none⟩) 0 0) ((w.alloc (.cells #[.int .i64 t, .int .i64 n, .int .i64 s, .slice A len c] 24)).alloc (.cells #[] 3))) := by
    refine ⟨?_, (Bk.new w _ _).alloc _, ((Bl.refl w).alloc _).alloc _⟩
    have h := World.ownsRow_lit (base := w.heap.size) (e := 3) (size := 1) (w.alloc (.cells #[.int .i64 t, .int .i64 n, .int .i64 s, .slice A len c] 24)) #[] 0 (by simp) (by simp [maxLen]) rfl
    rw [World.size_alloc] at h
    exact h
  go_enter Try.func19, Try.ntmps19
  go_wp2_with fail
  go_loopw [5, 6] (fun v i wr => ∃ k : Nat, k ≤ len ∧ i = .int .i64 k ∧ Hid (OfRel ps non #[.int .i64 t, .int .i64 n, .int .i64 s, .slice A len c] w k v wr)) (fun _ i _ => len - (intOf i).toNat)
  case atStart => exact ⟨0, Nat.zero_le _, rfl, H0⟩
  case round =>
    obtain ⟨k, hk, rfl, HR⟩ := hrel
    have k3 : wr.cell? ⟨w.heap.size, 3, none⟩ = some (.slice A len c) := HR.out.bk.cell 3
    by_cases hlt : k < len
    · have hj : k < ps.length := by have := HL.out; omega
      obtain ⟨b, off, Ax, cx, rfl, hbB, hrx, hc0, hc1⟩ := (HA.out.bl hB HR.out.b).at_ hj
      have hsz : w.heap.size ≤ wr.heap.size := HR.out.b.size
      have hlk := ofK_len ps non k
      by_cases he : ps[k].left = non
      · have hq : (ps[k].left == non) = true := by simpa using he
        have HN := Lib.hid (fun (v' : Value) (w2 : World) (o2 : Obj) ho hg => (HR.out.alloc o2).put (v' := v') (w2 := w2) hj he ho hg)
        have HO := Lib.hid HR.out.own
        generalize ps[k] = x at hc0 hc1 hq
        obtain ⟨xl, xs⟩ := x
        simp only at hc0 hc1 hq
        clear hrx hj he
        go_wp2_with (at_builtin; refine wpList_append_own _ rfl (.tmp 23) (.tmp 25) 25 rfl w.heap.size 3 i0 (.int .i64 0) 1 8 Try.underlying25 hi hz0 hz1 hz2 rfl (by decide) _ _ _ rfl (HO.out.alloc _) ⟨wr.heap.size, 0, none⟩ 1 1 [.int .i64 (k : Int)] rfl rfl (one_new _ _ _) (by simp [Value.oneCell']) (by simp only [maxLen]; omega) (by omega) (by simp; omega) ?_; intro v' w2 hown' hgrow _; have HX := Lib.hid (HN.out _ _ _ hown' hgrow); clear hown' hgrow)
        go_roundw
        case rel => exact ⟨k + 1, by omega, by go_num, HX⟩
        case measure => simp [intOf]; omega
      · have hq : (ps[k].left == non) = false := by simpa using he
        have HX := Lib.hid (HR.out.skip hj he)
        generalize ps[k] = x at hc0 hc1 hq
        obtain ⟨xl, xs⟩ := x
        simp only at hc0 hc1 hq
        clear hrx hj he
        go_wp2_with fail
        go_roundw
        case rel => exact ⟨k + 1, by omega, by go_num, HX⟩
        case measure => simp [intOf]; omega
    · have HD := Lib.hid (HR.out.done (by have := HL.out; omega))
      go_wp2_with fail
      go_ret
      exact HD.out
end Go.Proofs.Ytdfhhbncmdpoeaa
