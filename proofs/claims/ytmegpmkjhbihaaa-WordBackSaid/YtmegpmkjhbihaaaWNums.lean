/- wire.Reader's Nums by wire's own list of ints. -/
import Derived.Test.YtmegpmkjhbihaaaWNew
namespace Go.Proofs.Ytmegpmkjhbihaaa
open Go.RowKit

/-- What a reader's Nums leaves: a row of its own. -/
def NPost (xs : List Nat) (s : Wr.St) (B g : Nat) (w : World) (e : Ending) (w' : World) : Prop :=
  ∃ v, e = .returned v ∧ w'.ownsRow w.heap.size 3 1 v xs.length (ins (ns xs)) ∧ Rdr w' B g s ∧ Fr (fun k => k = g) w w'

/-- Where the loop stands: k numbers are read. -/
def EachRel (s1 : Wr.St) (most B g k : Nat) (w : World) (v : Value) (wr : World) : Prop :=
  wr.ownsRow w.heap.size 3 1 v k (ins (ns (Wr.many k s1 most).1)) ∧ Rdr wr B g (Wr.many k s1 most).2 ∧ ((Wr.many k s1 most).2.e = 0 ∨ k = 0) ∧ Fr (fun i => i = g) w wr

section
variable {s s1 : Wr.St} {mn most B g k : Nat} {w w1 w2 : World} {v v' : Value}
theorem each_next (hB : B ≤ w.heap.size) (ho : w1.ownsRow w.heap.size 3 1 v k (ins (ns (Wr.many k s1 most).1)))
    (hr : Rdr w1 B g (Wr.num (Wr.many k s1 most).2 most).2) (hf : Fr (fun i => i = g) w w1)
    (ho' : w2.ownsRow w.heap.size 3 1 v' (k + 1) (ins (ns (Wr.many k s1 most).1) ++ [.int .i64 ((Wr.num (Wr.many k s1 most).2 most).1 : Int)])) {o : Obj} (hg : (w1.alloc o).grownBy w2 v.ownBlock) :
    w2.ownsRow w.heap.size 3 1 v' (k + 1) (ins (ns (Wr.many (k + 1) s1 most).1)) ∧ Rdr w2 B g (Wr.many (k + 1) s1 most).2 ∧ Fr (fun i => i = g) w w2 := by
  have e := Wr.many_snoc k s1 most
  refine ⟨?_, ?_, ?_⟩
  · rw [e]
    simpa [ns_append, ins_append, ns, ins] using ho'
  · rw [e]
    exact (hr.alloc o).grown (ho.alloc o) (by decide) hB hg
  · exact (hf.alloc o).grown hg fun i hi hlt => absurd (ho.lt i hi).1 (by omega)
end

set_option maxRecDepth 100000 in
set_option maxHeartbeats 1000000 in
theorem eachInt_any (B g : Nat) (s : Wr.St) (mn most : Nat) (w : World) (h : Rdr w B g s) (hmn : mn ≤ 1000000000) (hmost : most < 9223372036854775808) :
    Calls Try.prog 35 #[.pointer (some ⟨g, 0, none⟩), .int .i64 mn, .func (.func 36) #[.pointer (some ⟨g, 0, none⟩)] #[], .int .i64 most] w
      (NPost (Wr.nums s mn most).1 (Wr.nums s mn most).2 B g w) := by
  obtain ⟨i0, hi, hz0, hz1, hz2⟩ := info_parts int_info
  have HR := Lib.hid h
  have hB := h.le
  clear h
  go_enter Try.func35, Try.ntmps35
  go_wp2_with fail
  refine (num_any B g s mn _ HR.out (by omega)).mono ?_
  rintro e w0 ⟨rfl, hr0, hf0⟩
  have hn := Wr.num_le s mn
  have HR0 := Lib.hid hr0
  have HF0 := Lib.hid hf0
  have HW : Hid ((Wr.num s mn).2.e ≠ 0 → (Wr.num s mn).1 = 0) := Wr.num_wrong
  have HNone : Hid ((Wr.num s mn).2.e ≠ 0 → Wr.nums s mn most = ([], (Wr.num s mn).2)) := Wr.nums_none
  have HDone : Hid ((Wr.many (Wr.num s mn).1 (Wr.num s mn).2 most).2.e = 0 → Wr.nums s mn most = Wr.many (Wr.num s mn).1 (Wr.num s mn).2 most) := Wr.nums_done
  have HWrong : Hid (∀ k, k ≤ (Wr.num s mn).1 → (Wr.many k (Wr.num s mn).2 most).2.e ≠ 0 → Wr.nums s mn most = ([], (Wr.many k (Wr.num s mn).2 most).2)) := fun k hk h => Wr.nums_wrong hk h
  clear hr0 hf0
  generalize (Wr.num s mn).1 = n at *
  generalize (Wr.num s mn).2 = s1 at *
  go_wp2_with fail
  go_loopw [9, 13] (fun v i wr => ∃ k : Nat, k ≤ n ∧ i = .int .i64 k ∧ EachRel s1 most B g k w v wr) (fun _ i _ => n - (intOf i).toNat)
  case atStart => exact ⟨0, Nat.zero_le _, rfl, World.ownsRow_nil _ _ _ _, HR0.out, .inr rfl, HF0.out⟩
  case round =>
    obtain ⟨k, hk, rfl, hown, hrd, hz, hfr⟩ := hrel
    have HO := Lib.hid hown
    have HRD := Lib.hid hrd
    have HZ := Lib.hid hz
    have HFR := Lib.hid hfr
    clear hown hrd hz hfr
    by_cases hlt : k < n
    · by_cases he : (Wr.many (k + 1) s1 most).2.e = 0
      · have he' : ((Wr.num (Wr.many k s1 most).2 most).2.e != 0) = false := by rw [Wr.many_snoc] at he; simpa using he
        have HE := Lib.hid he; clear he
        go_wp2_with fail
        refine (num_any B g (Wr.many k s1 most).2 most _ HRD.out hmost).mono ?_
        rintro e w1 ⟨rfl, hr1, hf1⟩
        have HO1 := Lib.hid (own_fr HO.out hf1 fun i hi e => HRD.out.row HO.out (by decide) (by rw [hi, e]))
        have HR1 := Lib.hid hr1
        have HF1 : Hid (Fr (fun i => i = g) w w1) := HFR.out.same hf1
        have hs1 : w.heap.size ≤ w1.heap.size := HF1.out.size
        clear hr1 hf1
        go_wp2_with (at_builtin; refine wpList_append_own _ rfl (.tmp 15) (.tmp 19) 25 rfl w.heap.size 3 i0 (.int .i64 0) 1 8 Try.underlying25 hi hz0 hz1 hz2 rfl (by decide) _ _ _ rfl (HO1.out.alloc _) ⟨w1.heap.size, 0, none⟩ 1 1 [.int .i64 ((Wr.num (Wr.many k s1 most).2 most).1 : Int)] rfl rfl (one_new _ _ _) (by simp [Value.oneCell']) (by simp only [maxLen]; omega) (by omega) (by simp; omega) ?_; intro v' w2 hown' hgrow _; have HX := Lib.hid (each_next hB HO1.out HR1.out HF1.out hown' hgrow); clear hown' hgrow; obtain ⟨A2, c2, hk2, _⟩ := HX.out.2.1; have hcell : w2.cell? ⟨g, 1, none⟩ = some (.int .i64 (Wr.num (Wr.many k s1 most).2 most).2.e) := (hk2.cell 1).trans (by rw [Wr.many_snoc]; rfl); clear hk2)
        go_roundw
        case rel => exact ⟨k + 1, by omega, by go_num, HX.out.1, HX.out.2.1, .inl HE.out, HX.out.2.2⟩
        case measure => simp [intOf]; omega
      · have he' : ((Wr.num (Wr.many k s1 most).2 most).2.e != 0) = true := by rw [Wr.many_snoc] at he; simpa using he
        have HE := Lib.hid he; clear he
        go_wp2_with fail
        refine (num_any B g (Wr.many k s1 most).2 most _ HRD.out hmost).mono ?_
        rintro e w1 ⟨rfl, hr1, hf1⟩
        have HO1 := Lib.hid (own_fr HO.out hf1 fun i hi e => HRD.out.row HO.out (by decide) (by rw [hi, e]))
        have HR1 := Lib.hid hr1
        have HF1 : Hid (Fr (fun i => i = g) w w1) := HFR.out.same hf1
        have hs1 : w.heap.size ≤ w1.heap.size := HF1.out.size
        clear hr1 hf1
        go_wp2_with (at_builtin; refine wpList_append_own _ rfl (.tmp 15) (.tmp 19) 25 rfl w.heap.size 3 i0 (.int .i64 0) 1 8 Try.underlying25 hi hz0 hz1 hz2 rfl (by decide) _ _ _ rfl (HO1.out.alloc _) ⟨w1.heap.size, 0, none⟩ 1 1 [.int .i64 ((Wr.num (Wr.many k s1 most).2 most).1 : Int)] rfl rfl (one_new _ _ _) (by simp [Value.oneCell']) (by simp only [maxLen]; omega) (by omega) (by simp; omega) ?_; intro v' w2 hown' hgrow _; have HX := Lib.hid (each_next hB HO1.out HR1.out HF1.out hown' hgrow); clear hown' hgrow; obtain ⟨A2, c2, hk2, _⟩ := HX.out.2.1; have hcell : w2.cell? ⟨g, 1, none⟩ = some (.int .i64 (Wr.num (Wr.many k s1 most).2 most).2.e) := (hk2.cell 1).trans (by rw [Wr.many_snoc]; rfl); clear hk2)
        go_ret
        rw [HWrong.out (k + 1) (by omega) HE.out]
        exact ⟨_, rfl, World.ownsRow_nil _ _ _ _, HX.out.2.1, HX.out.2.2⟩
    · go_wp2_with fail
      go_ret
      have e : k = n := by omega
      subst e
      rcases HZ.out with hz | hz
      · rw [HDone.out hz]
        refine ⟨_, rfl, ?_, HRD.out, HFR.out⟩
        rw [Wr.many_len]
        exact HO.out
      · subst hz
        by_cases h0 : s1.e = 0
        · rw [HDone.out h0]
          exact ⟨_, rfl, HO.out, HRD.out, HFR.out⟩
        · rw [HNone.out h0]
          exact ⟨_, rfl, HO.out, HRD.out, HFR.out⟩

set_option maxHeartbeats 400000 in
theorem nums_any (B g : Nat) (s : Wr.St) (mn most : Nat) (w : World) (h : Rdr w B g s) (hmn : mn ≤ 1000000000) (hmost : most < 9223372036854775808) :
    Calls Try.prog 25 #[.pointer (some ⟨g, 0, none⟩), .int .i64 mn, .int .i64 most] w (NPost (Wr.nums s mn most).1 (Wr.nums s mn most).2 B g w) := by
  have HR := Lib.hid h
  clear h
  go_enter Try.func25, Try.ntmps25
  go_wp2_with fail
  refine (eachInt_any B g s mn most _ HR.out hmn hmost).mono ?_
  rintro e w' ⟨v, rfl, h1, h2, h3⟩
  have H1 := Lib.hid h1
  have H2 := Lib.hid h2
  have H3 := Lib.hid h3
  clear h1 h2 h3
  go_wp2_with fail
  go_ret
  exact ⟨_, rfl, H1.out, H2.out, H3.out⟩
end Go.Proofs.Ytmegpmkjhbihaaa
