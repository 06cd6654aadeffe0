/- The reference's lists, read. -/
import Derived.Test.YtmegpmkjhbihaaaWRef
namespace Go.Proofs.Ytmegpmkjhbihaaa
open Go.RowKit

/-- What the reference's Nums leaves. -/
def RNPost (xs : List Nat) (s : Wr.St) (B g : Nat) (w : World) (e : Ending) (w' : World) : Prop :=
  ∃ v, e = .returned v ∧ w'.ownsRow w.heap.size 3 1 v xs.length (ins (ns xs)) ∧ RRd w' B g s ∧ Fr (fun k => k = g) w w'

section
variable {s1 : Wr.St} {most B g k : Nat} {w w1 w2 : World} {v v' : Value}
theorem reach_next (hB : B ≤ w.heap.size) (ho : w1.ownsRow w.heap.size 3 1 v k (ins (ns (Wr.many k s1 most).1)))
    (hr : RRd w1 B g (Wr.num (Wr.many k s1 most).2 most).2) (hf : Fr (fun i => i = g) w w1)
    (ho' : w2.ownsRow w.heap.size 3 1 v' (k + 1) (ins (ns (Wr.many k s1 most).1) ++ [.int .i64 ((Wr.num (Wr.many k s1 most).2 most).1 : Int)])) {o : Obj} (hg : (w1.alloc o).grownBy w2 v.ownBlock) :
    w2.ownsRow w.heap.size 3 1 v' (k + 1) (ins (ns (Wr.many (k + 1) s1 most).1)) ∧ RRd w2 B g (Wr.many (k + 1) s1 most).2 ∧ Fr (fun i => i = g) w w2 := by
  have e := Wr.many_snoc k s1 most
  refine ⟨?_, ?_, ?_⟩
  · rw [e]
    simpa [ns_append, ins_append, ns, ins] using ho'
  · rw [e]
    exact (hr.alloc o).grown (ho.alloc o) (by decide) hB hg
  · exact (hf.alloc o).grown hg fun i hi hlt => absurd (ho.lt i hi).1 (by omega)
end

set_option maxRecDepth 100000 in
set_option maxHeartbeats 1000000 in
theorem rnums_any (B g : Nat) (s : Wr.St) (mn most : Nat) (w : World) (h : RRd w B g s) (hmn : mn ≤ 1000000000) (hmost : most < 9223372036854775808) :
    Calls Try.prog 27 #[.pointer (some ⟨g, 0, none⟩), .int .i64 mn, .int .i64 most] w (RNPost (Wr.nums s mn most).1 (Wr.nums s mn most).2 B g w) := by
  obtain ⟨i0, hi, hz0, hz1, hz2⟩ := info_parts int_info
  have HR := Lib.hid (h.alloc (.cells #[] 3))
  have hB := h.le
  have hlt0 := h.lt
  clear h
  go_enter Try.func27, Try.ntmps27
  go_wp2_with fail
  refine (rnum_any B g s mn _ HR.out (by omega)).mono ?_
  rintro e w0 ⟨rfl, hr0, hf0⟩
  have own0 : Hid ((w.alloc (.cells #[] 3)).ownsRow w.heap.size 3 1 (.slice (some ⟨w.heap.size, 0, none⟩) 0 0) 0 []) := World.ownsRow_lit (base := w.heap.size) (e := 3) (size := 1) w #[] 0 (Nat.le_refl _) (by simp [maxLen]) rfl
  have HO0 := Lib.hid (own_fr own0.out hf0 fun i hi e => by injection hi with hi; have hi : w.heap.size = i := hi; omega)
  have hn := Wr.num_le s mn
  have HR0 := Lib.hid hr0
  have HF0 : Hid (Fr (fun k => k = g) w w0) := ((Fr.refl _ w).alloc _).same hf0
  have HDone : Hid ((Wr.many (Wr.num s mn).1 (Wr.num s mn).2 most).2.e = 0 → Wr.nums s mn most = Wr.many (Wr.num s mn).1 (Wr.num s mn).2 most) := Wr.nums_done
  have HWrong : Hid (∀ k, k ≤ (Wr.num s mn).1 → (Wr.many k (Wr.num s mn).2 most).2.e ≠ 0 → Wr.nums s mn most = ([], (Wr.many k (Wr.num s mn).2 most).2)) := fun k hk h => Wr.nums_wrong hk h
  clear hr0 hf0
  generalize (Wr.num s mn).1 = n at *
  generalize (Wr.num s mn).2 = s1 at *
  go_wp2_with fail
  go_loopw [7, 9] (fun v i wr => ∃ k : Nat, k ≤ n ∧ i = .int .i64 k ∧ Hid (wr.ownsRow w.heap.size 3 1 v k (ins (ns (Wr.many k s1 most).1))) ∧ Hid (RRd wr B g (Wr.many k s1 most).2) ∧ Hid (Fr (fun i => i = g) w wr)) (fun _ i _ => n - (intOf i).toNat)
  case atStart => exact ⟨0, Nat.zero_le _, rfl, HO0, HR0, HF0⟩
  case round =>
    obtain ⟨k, hk, rfl, HO, HRD, HFR⟩ := hrel
    obtain ⟨A1, c1, l1, hk1, _⟩ := HRD.out
    have hcell : wr.cell? ⟨g, 1, none⟩ = some (.int .i64 (Wr.many k s1 most).2.e) := hk1.cell 1
    clear hk1
    by_cases he : (Wr.many k s1 most).2.e = 0
    · have he1 : ((Wr.many k s1 most).2.e == 0) = true := by simp [he]
      have he2 : ((Wr.many k s1 most).2.e != 0) = false := by simp [he]
      have HE := Lib.hid he; clear he
      by_cases hlt : k < n
      · go_wp2_with fail
        refine (rnum_any B g (Wr.many k s1 most).2 most _ HRD.out hmost).mono ?_
        rintro e w1 ⟨rfl, hr1, hf1⟩
        have HO1 := Lib.hid (own_fr HO.out hf1 fun i hi e => HRD.out.row HO.out (by decide) (by rw [hi, e]))
        have HR1 := Lib.hid hr1
        have HF1 : Hid (Fr (fun i => i = g) w w1) := HFR.out.same hf1
        have hs1 : w.heap.size ≤ w1.heap.size := HF1.out.size
        clear hr1 hf1 hcell
        go_wp2_with (at_builtin; refine wpList_append_own _ rfl (.tmp 26) (.tmp 30) 25 rfl w.heap.size 3 i0 (.int .i64 0) 1 8 Try.underlying25 hi hz0 hz1 hz2 rfl (by decide) _ _ _ rfl (HO1.out.alloc _) ⟨w1.heap.size, 0, none⟩ 1 1 [.int .i64 ((Wr.num (Wr.many k s1 most).2 most).1 : Int)] rfl rfl (one_new _ _ _) (by simp [Value.oneCell']) (by simp only [maxLen]; omega) (by omega) (by simp; omega) ?_; intro v' w2 hown' hgrow _; have HX := Lib.hid (reach_next hB HO1.out HR1.out HF1.out hown' hgrow); clear hown' hgrow)
        go_roundw
        case rel => exact ⟨k + 1, by omega, by go_num, HX.out.1, HX.out.2.1, HX.out.2.2⟩
        case measure => simp [intOf]; omega
      · go_wp2_with fail
        go_ret
        have e : k = n := by omega
        subst e
        rw [HDone.out HE.out]
        refine ⟨_, rfl, ?_, HRD.out, HFR.out⟩
        rw [Wr.many_len]
        exact HO.out
    · have he1 : ((Wr.many k s1 most).2.e == 0) = false := by simpa using he
      have he2 : ((Wr.many k s1 most).2.e != 0) = true := by simpa using he
      have HE := Lib.hid he; clear he
      by_cases hlt : k < n
      all_goals
        go_wp2_with fail
        go_ret
        rw [HWrong.out k (by omega) HE.out]
        exact ⟨_, rfl, World.ownsRow_nil _ _ _ _, HRD.out, HFR.out⟩

end Go.Proofs.Ytmegpmkjhbihaaa
