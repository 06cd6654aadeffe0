/- wire.New, bytes.Clone, and wire.Reader's Nums by wire's own list of ints. -/
import Derived.Test.YthhlgjedgbdgcaaWRd
namespace Go.Proofs.Ythhlgjedgbdgcaa
open Go.RowKit

theorem int_info : (Try.prog.info? 3).map (fun i => (i.zero, i.size, i.bytes)) = some (some (.int .i64 0), 1, 8) := by kernel_rfl

set_option maxHeartbeats 400000 in
theorem clone_any (A : Option Addr) (len cap : Nat) (l : List Nat) (w : World) (B : Nat) (hl : len = l.length) (hmax : len ≤ 140737488355328) (hr : Rd w B A (bys l)) :
    Calls Try.prog 33 #[.slice A len cap] w (Makes l w) := by
  obtain ⟨i0, hi, hz0, hz1, hz2⟩ := info_parts byte_info
  have HL := Lib.hid hl; clear hl
  have hnil := fun (w : World) (a : Option Addr) (n c : Nat) => Lib.run_eql_slice_nil (P := Try.prog) (w := w) 26 5 a n c 0 0 Try.underlying26
  cases A with
  | none =>
    have HN : Hid (Makes l w (.returned (.slice none 0 0)) w) := by
      have : l = [] := by
        cases l with
        | nil => rfl
        | cons x r => obtain ⟨_, _, h, _⟩ := hr (by simp [bys]); cases h
      subst this
      exact ⟨none, 0, 0, rfl, rfl, Nat.le_refl _, World.ownsRow_nil _ _ _ _, Bl.refl w⟩
    clear hr
    go_enter Try.func33, Try.ntmps33
    go_wp2
    go_ret
    exact HN.out
  | some ad =>
    have HA := Lib.hid hr; clear hr
    have own0 : Hid ((w.alloc (.cells #[] 5)).ownsRow w.heap.size 5 1 (.slice (some ⟨w.heap.size, 0, none⟩) 0 0) 0 []) := World.ownsRow_lit (base := w.heap.size) (e := 5) (size := 1) w #[] 0 (Nat.le_refl _) (by simp [maxLen]) rfl
    have HB : Hid (Rd (w.alloc (.cells #[] 5)) (w.heap.size + 1) (some ad) (bys l)) := by
      have h : Rd w w.heap.size (some ad) (bys l) := fun hn => by
        obtain ⟨b, off, e, _, hc⟩ := HA.out hn
        exact ⟨b, off, e, World.block_lt_of_cell? w ⟨b, off + 0, none⟩ (hc 0 _ (List.getElem?_eq_getElem hn)), hc⟩
      exact (h.alloc (Nat.le_refl _) _).more (by omega)
    go_enter Try.func33, Try.ntmps33
    go_wp2_with (at_builtin; refine wpList_append_rd _ rfl (.tmp 5) (.tmp 6) 26 rfl w.heap.size 5 i0 (.int .u8 0) 1 Try.underlying26 hi hz0 hz1 hz2 rfl _ _ _ rfl own0.out (w.heap.size + 1) (some ad) len cap (bys l) rfl HB.out (by rw [bys_len]; exact HL.out.symm) (bys_one _) (by simp only [maxLen]; omega) (by omega) (by simp) ?_; intro v2 w2 hown2 hg2 _; obtain ⟨A2, c2, rfl, hc2⟩ := own_slice hown2; have HO2 := Lib.hid hown2; have HG2 := Lib.hid hg2; clear hown2 hg2)
    go_ret
    refine ⟨A2, len, c2, rfl, HL.out, by omega, ?_, ?_⟩
    · simpa using HO2.out
    · exact ((Bl.refl w).alloc _).grown HG2.out (fun k h => by injection h with h; rw [← h]; exact Nat.le_refl _)

/-- What New leaves: a reader of its own. -/
def NewPost (l : List Nat) (w : World) (e : Ending) (w' : World) : Prop :=
  ∃ g, e = .returned (.pointer (some ⟨g, 0, none⟩)) ∧ w.heap.size ≤ g ∧ Rdr w' g g ⟨l, 0⟩ ∧ Bl w w'

set_option maxHeartbeats 400000 in
theorem new_any (A : Option Addr) (len cap : Nat) (l : List Nat) (w : World) (B : Nat) (hl : len = l.length) (hmax : len ≤ 140737488355328) (hr : Rd w B A (bys l)) (hb : ∀ c ∈ l, c < 256) :
    Calls Try.prog 14 #[.slice A len cap] w (NewPost l w) := by
  have HL := Lib.hid hl; clear hl
  have HA := Lib.hid hr; clear hr
  have HC := Lib.hid hb; clear hb
  go_enter Try.func14, Try.ntmps14
  go_wp2_with fail
  refine (clone_any A len cap l w B HL.out hmax HA.out).mono ?_
  rintro e w1 ⟨A1, n1, c1, rfl, hn1, hc1, hown1, hb1⟩
  have HN := Lib.hid hn1; clear hn1
  have HO := Lib.hid hown1; clear hown1
  have HB := Lib.hid hb1; clear hb1
  go_wp2_with fail
  go_ret
  have hcap : c1 ≤ maxLen := by
    rcases HO.out.2 with ⟨h, _⟩ | ⟨g, cap, cur, h, _, _, _, hm, _⟩
    · injection h with _ _ h; omega
    · injection h with _ _ h; omega
  have hnl := HN.out
  refine ⟨w1.heap.size, rfl, HB.out.size, ⟨A1, c1, ?_, (Rd.own HO.out).alloc (Nat.le_refl _) _, ?_, by unfold maxLen at hcap; omega, ⟨HC.out, fun h => absurd rfl h⟩, by simp⟩, Bl.alloc HB.out _⟩
  · show Bk _ _ _ #[.slice A1 l.length c1, .int .i64 0]
    rw [← hnl]
    exact Bk.new w1 _ _
  · show l.length ≤ c1
    omega

/-- What a reader's Nums leaves: a row of its own. -/
def NPost (xs : List Nat) (s : Wr.St) (B g : Nat) (w : World) (e : Ending) (w' : World) : Prop :=
  ∃ v, e = .returned v ∧ w'.ownsRow w.heap.size 3 1 v xs.length (ins (ns xs)) ∧ Rdr w' B g s ∧ Fr (fun k => k = g) w w'

/-- Where the loop stands: k numbers are read. -/
def EachRel (s1 : Wr.St) (most B g k : Nat) (w : World) (v : Value) (wr : World) : Prop :=
  wr.ownsRow w.heap.size 3 1 v k (ins (ns (Wr.many k s1 most).1)) ∧ Rdr wr B g (Wr.many k s1 most).2 ∧ ((Wr.many k s1 most).2.e = 0 ∨ k = 0) ∧ Fr (fun i => i = g) w wr

section
variable {s s1 : Wr.St} {mn most B g k : Nat} {w w1 w2 : World} {v v' : Value}
theorem each_next (hB : B ≤ w.heap.size) (ho : w1.ownsRow w.heap.size 3 1 v k (ins (ns (Wr.many k s1 most).1)))
    (hr : Rdr w1 B g (Wr.num (Wr.many k s1 most).2 most).2) (hf : Fr (fun i => i = g) w w1)
    (ho' : w2.ownsRow w.heap.size 3 1 v' (k + 1) (ins (ns (Wr.many k s1 most).1) ++ [.int .i64 ((Wr.num (Wr.many k s1 most).2 most).1 : Int)])) {o : Obj} (hg : (w1.alloc o).grownBy w2 v.ownBlock) :
    w2.ownsRow w.heap.size 3 1 v' (k + 1) (ins (ns (Wr.many (k + 1) s1 most).1)) ∧ Rdr w2 B g (Wr.many (k + 1) s1 most).2 ∧ Fr (fun i => i = g) w w2 := by
  have e := Wr.many_snoc k s1 most
  refine ⟨?_, ?_, ?_⟩
  · rw [e]
    simpa [ns_append, ins_append, ns, ins] using ho'
  · rw [e]
    exact (hr.alloc o).grown (ho.alloc o) (by decide) hB hg
  · exact (hf.alloc o).grown hg fun i hi hlt => absurd (ho.lt i hi).1 (by omega)
end

set_option maxRecDepth 100000 in
set_option maxHeartbeats 1000000 in
theorem eachInt_any (B g : Nat) (s : Wr.St) (mn most : Nat) (w : World) (h : Rdr w B g s) (hmn : mn ≤ 1000000000) (hmost : most < 9223372036854775808) :
    Calls Try.prog 37 #[.pointer (some ⟨g, 0, none⟩), .int .i64 mn, .func (.func 15) #[.pointer (some ⟨g, 0, none⟩)] #[], .int .i64 most] w
      (NPost (Wr.nums s mn most).1 (Wr.nums s mn most).2 B g w) := by
  obtain ⟨i0, hi, hz0, hz1, hz2⟩ := info_parts int_info
  have HR := Lib.hid h
  have hB := h.le
  clear h
  go_enter Try.func37, Try.ntmps37
  go_wp2_with fail
  refine (num_any B g s mn _ HR.out (by omega)).mono ?_
  rintro e w0 ⟨rfl, hr0, hf0⟩
  have hn := Wr.num_le s mn
  have HR0 := Lib.hid hr0
  have HF0 := Lib.hid hf0
  have HW : Hid ((Wr.num s mn).2.e ≠ 0 → (Wr.num s mn).1 = 0) := Wr.num_wrong
  have HNone : Hid ((Wr.num s mn).2.e ≠ 0 → Wr.nums s mn most = ([], (Wr.num s mn).2)) := Wr.nums_none
  have HDone : Hid ((Wr.many (Wr.num s mn).1 (Wr.num s mn).2 most).2.e = 0 → Wr.nums s mn most = Wr.many (Wr.num s mn).1 (Wr.num s mn).2 most) := Wr.nums_done
  have HWrong : Hid (∀ k, k ≤ (Wr.num s mn).1 → (Wr.many k (Wr.num s mn).2 most).2.e ≠ 0 → Wr.nums s mn most = ([], (Wr.many k (Wr.num s mn).2 most).2)) := fun k hk h => Wr.nums_wrong hk h
  clear hr0 hf0
  generalize (Wr.num s mn).1 = n at *
  generalize (Wr.num s mn).2 = s1 at *
  go_wp2_with fail
  go_loopw [9, 13] (fun v i wr => ∃ k : Nat, k ≤ n ∧ i = .int .i64 k ∧ EachRel s1 most B g k w v wr) (fun _ i _ => n - (intOf i).toNat)
  case atStart => exact ⟨0, Nat.zero_le _, rfl, World.ownsRow_nil _ _ _ _, HR0.out, .inr rfl, HF0.out⟩
  case round =>
    obtain ⟨k, hk, rfl, hown, hrd, hz, hfr⟩ := hrel
    have HO := Lib.hid hown
    have HRD := Lib.hid hrd
    have HZ := Lib.hid hz
    have HFR := Lib.hid hfr
    clear hown hrd hz hfr
    by_cases hlt : k < n
    · by_cases he : (Wr.many (k + 1) s1 most).2.e = 0
      · have he' : ((Wr.num (Wr.many k s1 most).2 most).2.e != 0) = false := by rw [Wr.many_snoc] at he; simpa using he
        have HE := Lib.hid he; clear he
        go_wp2_with fail
        refine (num_any B g (Wr.many k s1 most).2 most _ HRD.out hmost).mono ?_
        rintro e w1 ⟨rfl, hr1, hf1⟩
        have HO1 := Lib.hid (own_fr HO.out hf1 fun i hi e => HRD.out.row HO.out (by decide) (by rw [hi, e]))
        have HR1 := Lib.hid hr1
        have HF1 : Hid (Fr (fun i => i = g) w w1) := HFR.out.same hf1
        have hs1 : w.heap.size ≤ w1.heap.size := HF1.out.size
        clear hr1 hf1
        go_wp2_with (at_builtin; refine wpList_append_own _ rfl (.tmp 15) (.tmp 19) 29 rfl w.heap.size 3 i0 (.int .i64 0) 1 8 Try.underlying29 hi hz0 hz1 hz2 rfl (by decide) _ _ _ rfl (HO1.out.alloc _) ⟨w1.heap.size, 0, none⟩ 1 1 [.int .i64 ((Wr.num (Wr.many k s1 most).2 most).1 : Int)] rfl rfl (one_new _ _ _) (by simp [Value.oneCell']) (by simp only [maxLen]; omega) (by omega) (by simp; omega) ?_; intro v' w2 hown' hgrow _; have HX := Lib.hid (each_next hB HO1.out HR1.out HF1.out hown' hgrow); clear hown' hgrow; obtain ⟨A2, c2, hk2, _⟩ := HX.out.2.1; have hcell : w2.cell? ⟨g, 1, none⟩ = some (.int .i64 (Wr.num (Wr.many k s1 most).2 most).2.e) := (hk2.cell 1).trans (by rw [Wr.many_snoc]; rfl); clear hk2)
        go_roundw
        case rel => exact ⟨k + 1, by omega, by go_num, HX.out.1, HX.out.2.1, .inl HE.out, HX.out.2.2⟩
        case measure => simp [intOf]; omega
      · have he' : ((Wr.num (Wr.many k s1 most).2 most).2.e != 0) = true := by rw [Wr.many_snoc] at he; simpa using he
        have HE := Lib.hid he; clear he
        go_wp2_with fail
        refine (num_any B g (Wr.many k s1 most).2 most _ HRD.out hmost).mono ?_
        rintro e w1 ⟨rfl, hr1, hf1⟩
        have HO1 := Lib.hid (own_fr HO.out hf1 fun i hi e => HRD.out.row HO.out (by decide) (by rw [hi, e]))
        have HR1 := Lib.hid hr1
        have HF1 : Hid (Fr (fun i => i = g) w w1) := HFR.out.same hf1
        have hs1 : w.heap.size ≤ w1.heap.size := HF1.out.size
        clear hr1 hf1
        go_wp2_with (at_builtin; refine wpList_append_own _ rfl (.tmp 15) (.tmp 19) 29 rfl w.heap.size 3 i0 (.int .i64 0) 1 8 Try.underlying29 hi hz0 hz1 hz2 rfl (by decide) _ _ _ rfl (HO1.out.alloc _) ⟨w1.heap.size, 0, none⟩ 1 1 [.int .i64 ((Wr.num (Wr.many k s1 most).2 most).1 : Int)] rfl rfl (one_new _ _ _) (by simp [Value.oneCell']) (by simp only [maxLen]; omega) (by omega) (by simp; omega) ?_; intro v' w2 hown' hgrow _; have HX := Lib.hid (each_next hB HO1.out HR1.out HF1.out hown' hgrow); clear hown' hgrow; obtain ⟨A2, c2, hk2, _⟩ := HX.out.2.1; have hcell : w2.cell? ⟨g, 1, none⟩ = some (.int .i64 (Wr.num (Wr.many k s1 most).2 most).2.e) := (hk2.cell 1).trans (by rw [Wr.many_snoc]; rfl); clear hk2)
        go_ret
        rw [HWrong.out (k + 1) (by omega) HE.out]
        exact ⟨_, rfl, World.ownsRow_nil _ _ _ _, HX.out.2.1, HX.out.2.2⟩
    · go_wp2_with fail
      go_ret
      have e : k = n := by omega
      subst e
      rcases HZ.out with hz | hz
      · rw [HDone.out hz]
        refine ⟨_, rfl, ?_, HRD.out, HFR.out⟩
        rw [Wr.many_len]
        exact HO.out
      · subst hz
        by_cases h0 : s1.e = 0
        · rw [HDone.out h0]
          exact ⟨_, rfl, HO.out, HRD.out, HFR.out⟩
        · rw [HNone.out h0]
          exact ⟨_, rfl, HO.out, HRD.out, HFR.out⟩

set_option maxHeartbeats 400000 in
theorem nums_any (B g : Nat) (s : Wr.St) (mn most : Nat) (w : World) (h : Rdr w B g s) (hmn : mn ≤ 1000000000) (hmost : most < 9223372036854775808) :
    Calls Try.prog 19 #[.pointer (some ⟨g, 0, none⟩), .int .i64 mn, .int .i64 most] w (NPost (Wr.nums s mn most).1 (Wr.nums s mn most).2 B g w) := by
  have HR := Lib.hid h
  clear h
  go_enter Try.func19, Try.ntmps19
  go_wp2_with fail
  refine (eachInt_any B g s mn most _ HR.out hmn hmost).mono ?_
  rintro e w' ⟨v, rfl, h1, h2, h3⟩
  have H1 := Lib.hid h1
  have H2 := Lib.hid h2
  have H3 := Lib.hid h3
  clear h1 h2 h3
  go_wp2_with fail
  go_ret
  exact ⟨_, rfl, H1.out, H2.out, H3.out⟩
end Go.Proofs.Ythhlgjedgbdgcaa
