/- gram.Read itself: the grammar of bytes, or why there is none. -/
import Derived.Test.YtlfobnpkfloolaaGRead3
namespace Go.Proofs.Ytlfobnpkfloolaa
open Go.RowKit

theorem rg_state (l : List Nat) : (rg ⟨l, 0⟩).2 = (Gr.rdGm l).2 := rps_state _ _
theorem rg_fine {l : List Nat} (h : (rg ⟨l, 0⟩).2.e = 0) : (rg ⟨l, 0⟩).1 = (Gr.rdGm l).1 := by
  have h : (rps (Wr.num (t3 ⟨l, 0⟩) 60).1 (Wr.num (t3 ⟨l, 0⟩) 60).2).2.e = 0 := h
  unfold rg
  rw [rpl_done h, rps_fine _ h]
  rfl
theorem fin_zero {s : Wr.St} (h : Wr.fin s = 0) : s.e = 0 := by
  unfold Wr.fin at h
  split at h
  · cases h
  · exact h
theorem fin_nil {s : Wr.St} (h : Wr.fin s = 0) : s = ⟨[], 0⟩ := by
  obtain ⟨l, e⟩ := s
  unfold Wr.fin at h
  simp only at h
  split at h
  · cases h
  · rename_i hl
    have : l = [] := List.eq_nil_of_length_eq_zero (by omega)
    subst this
    rw [h]
/-- What Read tells. -/
def readOf (l : List Nat) : Gr.Gm × Int :=
  if Wr.fin (Gr.rdGm l).2 = 0 then (if okB (Gr.rdGm l).1 then ((Gr.rdGm l).1, 0) else (⟨0, 0, 0, []⟩, 2)) else (⟨0, 0, 0, []⟩, Wr.fin (Gr.rdGm l).2)
theorem readOf_wrong {l : List Nat} (h : Wr.fin (Gr.rdGm l).2 ≠ 0) : readOf l = (⟨0, 0, 0, []⟩, Wr.fin (Gr.rdGm l).2) := by unfold readOf; rw [if_neg h]
theorem readOf_form {l : List Nat} (h : Wr.fin (Gr.rdGm l).2 = 0) (h2 : okB (Gr.rdGm l).1 = false) : readOf l = (⟨0, 0, 0, []⟩, 2) := by unfold readOf; rw [if_pos h, if_neg (by rw [h2]; simp)]
theorem readOf_ok {l : List Nat} (h : Wr.fin (Gr.rdGm l).2 = 0) (h2 : okB (Gr.rdGm l).1 = true) : readOf l = ((Gr.rdGm l).1, 0) := by unfold readOf; rw [if_pos h, if_pos h2]
theorem readOf_zero {l : List Nat} (h : (readOf l).2 = 0) : Wr.fin (Gr.rdGm l).2 = 0 ∧ okB (Gr.rdGm l).1 = true ∧ readOf l = ((Gr.rdGm l).1, 0) := by
  by_cases h1 : Wr.fin (Gr.rdGm l).2 = 0
  · cases h2 : okB (Gr.rdGm l).1 with
    | true => exact ⟨h1, rfl, readOf_ok h1 h2⟩
    | false => rw [readOf_form h1 h2] at h; cases h
  · rw [readOf_wrong h1] at h; exact absurd h h1
/-- What is told may be, or is none at all. -/
theorem readOf_small (l : List Nat) : (readOf l).1.prods.length ≤ 60 ∧ ∀ p ∈ (readOf l).1.prods, p.right.length ≤ 8 := by
  by_cases h1 : Wr.fin (Gr.rdGm l).2 = 0
  · cases h2 : okB (Gr.rdGm l).1 with
    | true =>
      rw [readOf_ok h1 h2]
      obtain ⟨_, _, _, _, _, _, h7, h8⟩ := (okB_iff _).1 h2
      exact ⟨h7, fun p hp => (h8 p hp).2.2.1⟩
    | false => rw [readOf_form h1 h2]; exact ⟨Nat.zero_le _, by simp⟩
  · rw [readOf_wrong h1]; exact ⟨Nat.zero_le _, by simp⟩
/-- What Read leaves. -/
def RdPost (g : Gr.Gm) (x : Int) (w : World) (e : Ending) (w' : World) : Prop :=
  ∃ (A : Option Addr) (c : Nat), e = .returned (.tuple #[.agg #[.int .i64 g.terms, .int .i64 g.nons, .int .i64 g.start, .slice A g.prods.length c], .int .i64 x]) ∧ Prs w' w'.heap.size A g.prods ∧ Bl w w'
theorem RdPost.none {x : Int} {w w' : World} (h : Bl w w') : RdPost ⟨0, 0, 0, []⟩ x w (.returned (.tuple #[.agg #[.int .i64 0, .int .i64 0, .int .i64 0, .slice none 0 0], .int .i64 x])) w' :=
  ⟨Option.none, 0, rfl, Prs.nil, h⟩

set_option maxRecDepth 100000 in
set_option maxHeartbeats 1000000 in
theorem gread_any (A : Option Addr) (len cap : Nat) (l : List Nat) (w : World) (B : Nat) (hl : len = l.length) (hmax : len ≤ 1000000000) (hr : Rd w B A (bys l)) (hB : B ≤ w.heap.size) (hby : ∀ c ∈ l, c < 256) :
    Calls Try.prog 11 #[.slice A len cap] w (RdPost (readOf l).1 (readOf l).2 w) := by
  have HL := Lib.hid hl; clear hl
  have HA := Lib.hid (hr.alloc hB (.cells #[.int .i64 0, .int .i64 0, .int .i64 0, .slice none 0 0] 24)); clear hr
  have HBY := Lib.hid hby; clear hby
  have HK0 := Lib.hid (Bk.new w 24 #[.int .i64 0, .int .i64 0, .int .i64 0, .slice none 0 0])
  have HS := Lib.hid (rg_state l)
  have HFin : Hid ((rg ⟨l, 0⟩).2.e = 0 → (rg ⟨l, 0⟩).1 = (Gr.rdGm l).1) := rg_fine
  have HZ : Hid (Wr.fin (Gr.rdGm l).2 = 0 → (Gr.rdGm l).2.e = 0) := fin_zero
  have HW : Hid (Wr.fin (Gr.rdGm l).2 ≠ 0 → readOf l = (⟨0, 0, 0, []⟩, Wr.fin (Gr.rdGm l).2)) := readOf_wrong
  have HFo : Hid (Wr.fin (Gr.rdGm l).2 = 0 → okB (Gr.rdGm l).1 = false → readOf l = (⟨0, 0, 0, []⟩, 2)) := readOf_form
  have HOk : Hid (Wr.fin (Gr.rdGm l).2 = 0 → okB (Gr.rdGm l).1 = true → readOf l = ((Gr.rdGm l).1, 0)) := readOf_ok
  have hrl : (rg ⟨l, 0⟩).1.prods.length ≤ 60 := rpl_len _
  generalize Gr.rdGm l = R at *
  generalize readOf l = D at *
  obtain ⟨R1, R2⟩ := R
  simp only at HS HFin HZ HW HFo HOk
  go_enter Try.func11, Try.ntmps11
  go_wp2_with fail
  refine (new_any A len cap l _ B HL.out (by omega) HA.out HBY.out).mono ?_
  rintro e w1 ⟨g, rfl, hg, hr1, hb1⟩
  have HB1 : Hid (Bl w w1) := ((Bl.refl w).alloc _).trans hb1
  have HK1 := Lib.hid (HK0.out.bl hb1)
  have HR1 := Lib.hid hr1
  have hgw : w.heap.size < g := by simp at hg; omega
  clear hr1 hb1 hg
  go_wp2_with fail
  refine (readGrammar_any g g ⟨l, 0⟩ _ HR1.out).mono ?_
  rw [HS.out]
  generalize (rg ⟨l, 0⟩).1 = G at *
  obtain ⟨t, n, s, ps⟩ := G
  rintro e w2 ⟨A2, c2, b2, hs2, rfl, hm2, ho2, hr2, hf2⟩
  simp only at hm2 ho2 HFin hrl
  have hp2 : Prs w2 w2.heap.size A2 ps := by rw [← hm2]; exact ho2.prs
  have HB2 : Hid (Bl w w2) := HB1.out.fr hf2 fun i hi e => by omega
  have HK2 := Lib.hid (HK1.out.fr hf2 (by omega))
  have HP2 := Lib.hid (hp2.alloc (Nat.le_refl _) (.cells #[.int .i64 t, .int .i64 n, .int .i64 s, .slice A2 ps.length c2] 24))
  have HR2 := Lib.hid (hr2.alloc (.cells #[.int .i64 t, .int .i64 n, .int .i64 s, .slice A2 ps.length c2] 24))
  have HK3 := Lib.hid (HK2.out.alloc (.cells #[.int .i64 t, .int .i64 n, .int .i64 s, .slice A2 ps.length c2] 24))
  have HG3 := Lib.hid (Bk.new w2 24 #[.int .i64 t, .int .i64 n, .int .i64 s, .slice A2 ps.length c2])
  have HB3 := Lib.hid (HB2.out.alloc (.cells #[.int .i64 t, .int .i64 n, .int .i64 s, .slice A2 ps.length c2] 24))
  have hw2 : w.heap.size < w2.heap.size := HK2.out.lt
  have HM2 := Lib.hid hm2
  have HO2 := Lib.hid (ho2.bl ((Bl.refl w2).alloc (.cells #[.int .i64 t, .int .i64 n, .int .i64 s, .slice A2 ps.length c2] 24)))
  clear hp2 hr2 hf2 hm2 ho2
  go_wp2_with fail
  refine (end_any g g R2 _ HR2.out).mono ?_
  rintro e w' ⟨rfl, rfl⟩
  by_cases hfin : Wr.fin R2 = 0
  · rw [hfin]
    have hRe := HZ.out hfin
    have hR1 : (⟨t, n, s, ps⟩ : Gr.Gm) = R1 := HFin.out (by rw [HS.out]; exact hRe)
    have HR1' := Lib.hid hR1; clear hR1 hRe
    have HFo' := Lib.hid (HFo.out hfin)
    have HOk' := Lib.hid (HOk.out hfin)
    clear hfin
    cases hok : okB ⟨t, n, s, ps⟩ with
    | false =>
      have hD : D = (⟨0, 0, 0, []⟩, 2) := HFo'.out (by rw [← HR1'.out]; exact hok)
      subst hD
      have HOKF := Lib.hid hok; clear hok
      go_wp2_with fail
      refine (right_any t n s A2 ps.length c2 ps _ w2.heap.size rfl (by omega) HP2.out (by simp)).mono ?_
      rintro e w3 ⟨rfl, hb3⟩
      rw [HOKF.out]
      have HB4 := Lib.hid (HB3.out.trans hb3)
      have HK4 := Lib.hid (HK3.out.bl hb3)
      have d0 : w3.cell? ⟨w.heap.size, 0, none⟩ = some (.int .i64 0) := HK4.out.cell 0
      have d1 : w3.cell? ⟨w.heap.size, 1, none⟩ = some (.int .i64 0) := HK4.out.cell 1
      have d2 : w3.cell? ⟨w.heap.size, 2, none⟩ = some (.int .i64 0) := HK4.out.cell 2
      have d3 : w3.cell? ⟨w.heap.size, 3, none⟩ = some (.slice none 0 0) := HK4.out.cell 3
      have f0 := HK4.out.free 0
      have f1 := HK4.out.free 1
      have f2 := HK4.out.free 2
      have f3 := HK4.out.free 3
      clear hb3
      go_wp2_with fail
      refine bodyPost_ret (v := .tuple #[.agg #[.int .i64 0, .int .i64 0, .int .i64 0, .slice none 0 0], .int .i64 2]) (by simp [results, Try.results11, go_sem, *]) rfl ?_
      refine RdPost.none (HB4.out.fr ((((Fr.refl (fun k => k = w.heap.size) _).own 0 _).own 1 _).own 2 _ |>.own 3 _) fun i hi e => by omega)
    | true =>
      have hD : D = (⟨t, n, s, ps⟩, 0) := by rw [HOk'.out (by rw [← HR1'.out]; exact hok), HR1'.out]
      subst hD
      have HOKF := Lib.hid hok; clear hok
      go_wp2_with fail
      refine (right_any t n s A2 ps.length c2 ps _ w2.heap.size rfl (by omega) HP2.out (by simp)).mono ?_
      rintro e w3 ⟨rfl, hb3⟩
      rw [HOKF.out]
      have HB4 := Lib.hid (HB3.out.trans hb3)
      have HK4 := Lib.hid (HK3.out.bl hb3)
      have HG4 := Lib.hid (HG3.out.bl hb3)
      have HO4 := Lib.hid (HO2.out.bl hb3)
      have d0 : w3.cell? ⟨w.heap.size, 0, none⟩ = some (.int .i64 0) := HK4.out.cell 0
      have d1 : w3.cell? ⟨w.heap.size, 1, none⟩ = some (.int .i64 0) := HK4.out.cell 1
      have d2 : w3.cell? ⟨w.heap.size, 2, none⟩ = some (.int .i64 0) := HK4.out.cell 2
      have d3 : w3.cell? ⟨w.heap.size, 3, none⟩ = some (.slice none 0 0) := HK4.out.cell 3
      have f0 := HK4.out.free 0
      have f1 := HK4.out.free 1
      have f2 := HK4.out.free 2
      have f3 := HK4.out.free 3
      have l0 : w3.cell? ⟨w2.heap.size, 0, none⟩ = some (.int .i64 t) := HG4.out.cell 0
      have l1 : w3.cell? ⟨w2.heap.size, 1, none⟩ = some (.int .i64 n) := HG4.out.cell 1
      have l2 : w3.cell? ⟨w2.heap.size, 2, none⟩ = some (.int .i64 s) := HG4.out.cell 2
      have l3 : w3.cell? ⟨w2.heap.size, 3, none⟩ = some (.slice A2 ps.length c2) := HG4.out.cell 3
      have hs3 : w2.heap.size < w3.heap.size := HG4.out.lt
      clear hb3
      go_wp2_with fail
      refine bodyPost_ret (v := .tuple #[.agg #[.int .i64 t, .int .i64 n, .int .i64 s, .slice A2 ps.length c2], .int .i64 0]) (by simp [results, Try.results11, go_sem, *]) rfl ?_
      have hf9 : Fr (fun k => k = w.heap.size) w3 ((((w3.setCell ⟨w.heap.size, 0, none⟩ (.int .i64 t)).setCell ⟨w.heap.size, 1, none⟩ (.int .i64 n)).setCell ⟨w.heap.size, 2, none⟩ (.int .i64 s)).setCell ⟨w.heap.size, 3, none⟩ (.slice A2 ps.length c2)) := ((((Fr.refl (fun k => k = w.heap.size) w3).own 0 _).own 1 _).own 2 _).own 3 _
      refine ⟨A2, c2, rfl, ?_, HB4.out.fr hf9 fun i hi e => by omega⟩
      have o2 := HO4.out.put_ (o := 0) HK4.out (.int .i64 t)
      have k2 := HK4.out.put 0 (.int .i64 t)
      have o3 := o2.put_ (o := 1) k2 (.int .i64 n)
      have k3 := k2.put 1 (.int .i64 n)
      have o4 := o3.put_ (o := 2) k3 (.int .i64 s)
      have k4 := k3.put 2 (.int .i64 s)
      have o5 := (o4.put_ (o := 3) k4 (.slice A2 ps.length c2)).prs
      rw [HM2.out] at o5
      exact o5
  · have hD := HW.out hfin
    subst hD
    have hq : (Wr.fin R2 != 0) = true := by simpa using hfin
    clear hfin
    have d0 : w2.cell? ⟨w.heap.size, 0, none⟩ = some (.int .i64 0) := HK2.out.cell 0
    have d1 : w2.cell? ⟨w.heap.size, 1, none⟩ = some (.int .i64 0) := HK2.out.cell 1
    have d2 : w2.cell? ⟨w.heap.size, 2, none⟩ = some (.int .i64 0) := HK2.out.cell 2
    have d3 : w2.cell? ⟨w.heap.size, 3, none⟩ = some (.slice none 0 0) := HK2.out.cell 3
    have f0 := HK2.out.free 0
    have f1 := HK2.out.free 1
    have f2 := HK2.out.free 2
    have f3 := HK2.out.free 3
    go_wp2_with fail
    refine bodyPost_ret (v := .tuple #[.agg #[.int .i64 0, .int .i64 0, .int .i64 0, .slice none 0 0], .int .i64 (Wr.fin R2)]) (by simp [results, Try.results11, go_sem, *]) rfl ?_
    refine RdPost.none (Bl.alloc (HB2.out.fr ((((Fr.refl (fun k => k = w.heap.size) _).own 0 _).own 1 _).own 2 _ |>.own 3 _) fun i hi e => by omega) _)
end Go.Proofs.Ytlfobnpkfloolaa
