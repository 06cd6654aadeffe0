/- left.stepsOf: a nonterminal's steps in their order. And slices.Clip of steps. -/
import Derived.Test.YtbncgjccmadkbaaLKey
import Derived.Test.YtbncgjccmadkbaaLAll
import Derived.Test.YtbncgjccmadkbaaOOf
import Derived.Test.YtbncgjccmadkbaaPlainS
import Derived.Maps.OwnOps
namespace Go.Proofs.Ytbncgjccmadkbaa
open Go.RowKit

theorem step_info : (Try.prog.info? 138).map (fun i => (i.zero, i.size, i.bytes)) = some (some (.agg #[.int .i64 0, .int .i64 0]), 2, 16) := by kernel_rfl
namespace Lf
/-- The steps of the first a productions of a list. -/
def outTo (ps : List Gr.Pr) (nl : Nat → Bool) (l : List Nat) (a : Nat) : List Stp := (l.take a).flatMap (stepsOf ps nl)
/-- A nonterminal's steps. -/
def outs (ps : List Gr.Pr) (nl : Nat → Bool) (m : Nat) : List Stp := (ofK ps (m : Int) ps.length).flatMap (stepsOf ps nl)
section
variable {ps : List Gr.Pr} {nl : Nat → Bool} {l : List Nat} {a m i : Nat}
theorem outTo_zero : outTo ps nl l 0 = [] := rfl
theorem outTo_succ (ha : a < l.length) : outTo ps nl l (a + 1) = outTo ps nl l a ++ stepsOf ps nl l[a] := by
  unfold outTo
  rw [List.take_succ_eq_append_getElem ha, List.flatMap_append, List.flatMap_cons, List.flatMap_nil, List.append_nil]
theorem outs_is : outs ps nl m = outTo ps nl (ofK ps (m : Int) ps.length) (ofK ps (m : Int) ps.length).length := by unfold outs outTo; rw [List.take_length]
theorem stepsOf_pre (hi : i < ps.length) : stepsOf ps nl i = stPre ps nl i ps[i].right.length := by
  unfold stepsOf stPre
  rw [List.getElem?_eq_getElem hi]
theorem outTo_len (h8 : ∀ p ∈ ps, p.right.length ≤ 8) (hl : ∀ x ∈ l, x < ps.length) : ∀ a, a ≤ l.length → (outTo ps nl l a).length ≤ 8 * a
  | 0, _ => Nat.le_refl _
  | a + 1, ha => by
    have ih := outTo_len h8 hl a (by omega)
    have hx := hl _ (List.getElem_mem (show a < l.length by omega))
    rw [outTo_succ (show a < l.length by omega), List.length_append, stepsOf_pre hx]
    have h1 := stPre_len (ps := ps) (nl := nl) (i := l[a]'(show a < l.length by omega)) (ps[l[a]'(show a < l.length by omega)]'hx).right.length
    have h2 := h8 _ (List.getElem_mem hx)
    omega
theorem ofK_mem {ps : List Gr.Pr} {non : Int} {k i : Nat} : i ∈ ofK ps non k ↔ i < k ∧ ∃ p, ps[i]? = some p ∧ p.left = non := by
  unfold ofK
  rw [List.mem_filter, List.mem_range]
  constructor
  · rintro ⟨h1, h2⟩
    refine ⟨h1, ?_⟩
    cases e : ps[i]? with
    | none => rw [e] at h2; cases h2
    | some p => rw [e] at h2; exact ⟨p, rfl, of_decide_eq_true h2⟩
  · rintro ⟨h1, p, h2, h3⟩
    refine ⟨h1, ?_⟩
    rw [h2]
    exact decide_eq_true h3
theorem mem_outs (h0 : ∀ p ∈ ps, 0 ≤ p.left) {x : Stp} : x ∈ outs ps nl m ↔ isStep ps nl x = true ∧ frm ps x = m := by
  unfold outs
  rw [List.mem_flatMap]
  constructor
  · rintro ⟨i, hi, hx⟩
    obtain ⟨h1, p, h2, h3⟩ := ofK_mem.1 hi
    unfold stepsOf at hx
    rw [List.mem_filterMap] at hx
    obtain ⟨k, _, h⟩ := hx
    split at h
    · rename_i hs
      injection h with h
      subst h
      refine ⟨hs, ?_⟩
      unfold frm
      show (match ps[i]? with | none => 0 | some p => p.left.toNat) = m
      rw [h2]
      show p.left.toNat = m
      omega
    · cases h
  · rintro ⟨hs, hf⟩
    have hm : x ∈ all ps nl := mem_all.2 hs
    unfold all at hm
    rw [List.mem_flatMap] at hm
    obtain ⟨i, hi, hx⟩ := hm
    have hi := List.mem_range.1 hi
    have e : x.1 = i := by
      unfold stepsOf at hx
      rw [List.mem_filterMap] at hx
      obtain ⟨k, _, h⟩ := hx
      split at h
      · injection h with h; rw [← h]
      · cases h
    refine ⟨i, ofK_mem.2 ⟨hi, ps[i], List.getElem?_eq_getElem hi, ?_⟩, hx⟩
    unfold frm at hf
    rw [e, List.getElem?_eq_getElem hi] at hf
    have hf : ps[i].left.toNat = m := hf
    have := h0 _ (List.getElem_mem hi)
    omega
end
end Lf

set_option maxRecDepth 100000 in
set_option maxHeartbeats 8000000 in
theorem stepsOf_any (t n s : Int) (A : Option Addr) (len c : Nat) (ps : List Gr.Pr) (nl : Nat → Bool) (bm m : Nat) (w : World) (B : Nat) (hlen : len = ps.length) (hr : Prs w B A ps) (hB : B ≤ w.heap.size) (hok : okB ⟨t, n, s, ps⟩ = true) (hmap : ToMap w bm ps nl) :
    Calls Try.prog 94 #[.agg #[.int .i64 t, .int .i64 n, .int .i64 s, .slice A len c], .map (some bm), .int .i64 (m : Int)] w fun e w' =>
      ∃ A' len' c', e = .returned (.slice A' len' c') ∧ len' = (Lf.outs ps nl m).length ∧ len' ≤ 480 ∧ w'.ownsRow w.heap.size 138 2 (.slice A' len' c') len' (stRow (Lf.outs ps nl m)) ∧ Bl w w' := by
  obtain ⟨i0, hi, hz0, hz1, hz2⟩ := info_parts step_info
  have HL := Lib.hid hlen; clear hlen
  have HP : Hid (∀ w', Bl w w' → Prs w' w'.heap.size A ps) := fun _ hb => (hr.bl hB hb).more (Nat.le_trans hB hb.size)
  clear hr hB
  have HMp := Lib.hid hmap; clear hmap
  obtain ⟨n1, n2, n3⟩ := ok_nons hok
  have hl60 : len ≤ 60 := by have := HL.out; omega
  have HOs := Lib.hid (Lf.outs_is (ps := ps) (nl := nl) (m := m))
  have HMm : Hid (∀ x ∈ ofK ps (m : Int) ps.length, x < ps.length) := fun x hx => (Lf.ofK_mem.1 hx).1
  have H8 : Hid (∀ p ∈ ps, p.right.length ≤ 8) := fun p hp => by
    obtain ⟨j, hj, rfl⟩ := List.mem_iff_getElem.1 hp
    exact (ok_syms hok hj).2.1
  have hol : (ofK ps (m : Int) ps.length).length ≤ 60 := Nat.le_trans (ofK_len ps (m : Int) ps.length) n3
  have HOl := Lib.hid (fun a h => Lf.outTo_len (nl := nl) (l := ofK ps (m : Int) ps.length) H8.out HMm.out a h)
  clear hok
  have HK0 : Hid (Bk (w.alloc (.cells #[.int .i64 t, .int .i64 n, .int .i64 s, .slice A len c] 24)) w.heap.size 24 #[.int .i64 t, .int .i64 n, .int .i64 s, .slice A len c]) := Bk.new w _ _
  have HB0 : Hid (Bl w (w.alloc (.cells #[.int .i64 t, .int .i64 n, .int .i64 s, .slice A len c] 24))) := (Bl.refl w).alloc _
  go_enter Try.func94, Try.ntmps94
  go_wp2_with fail
  refine (of_any t n s (m : Int) A len c ps _ _ HL.out (by omega) (HP.out _ HB0.out) (Nat.le_refl _)).mono ?_
  rintro e w1 ⟨Af, cf, rfl, hcf, hof, hbf⟩
  generalize ofK ps (m : Int) ps.length = l at *
  rw [ns_len] at *
  have HF1 := Lib.hid (RdT.of_own hof)
  have HR1 : Hid (ORel w 138 2 w.heap.size 24 #[.int .i64 t, .int .i64 n, .int .i64 s, .slice A len c] 0 [] (.slice none 0 0) w1) := ⟨World.ownsRow_nil _ _ _ _, HK0.out.bl hbf, HB0.out.trans hbf⟩
  clear hof hcf hbf HK0 HB0
  go_wp2_with fail
  go_loopw [7, 18] (fun v i wr => ∃ k : Nat, k ≤ l.length ∧ i = .int .i64 k ∧ Hid (ORel w 138 2 w.heap.size 24 #[.int .i64 t, .int .i64 n, .int .i64 s, .slice A len c] (Lf.outTo ps nl l k).length (stRow (Lf.outTo ps nl l k)) v wr) ∧ Hid (RdT wr 3 Af (ins (ns l)))) (fun _ i _ => l.length - (intOf i).toNat)
  case atStart => exact ⟨0, Nat.zero_le _, rfl, HR1.out, HF1.out⟩
  case round =>
    obtain ⟨k, hk, rfl, HR, HF⟩ := hrel
    by_cases hlt : k < l.length
    · have HSuc := Lib.hid (Lf.outTo_succ (ps := ps) (nl := nl) hlt)
      have HTl := Lib.hid (HOl.out k hk)
      obtain ⟨bo, oo, rfl, hbo, f0⟩ := (HF.out.rd).int (j := k) (by rw [ns_len]; exact hlt)
      rw [show (ns l)[k]'(by rw [ns_len]; exact hlt) = ((l[k] : Nat) : Int) by simp [ns]] at f0
      have hj := HMm.out _ (List.getElem_mem hlt)
      generalize l[k] = i at *
      rw [Lf.stepsOf_pre hj] at HSuc
      have h8 := H8.out _ (List.getElem_mem hj)
      have g3 : wr.cell? ⟨w.heap.size, 3, none⟩ = some (.slice A len c) := HR.out.bg.cell 3
      have glt : w.heap.size < wr.heap.size := HR.out.bg.lt
      obtain ⟨b, off, Ax, cx, rfl, hbB, hrx, hc0, hc1⟩ := (HP.out _ HR.out.b).at_ hj
      have hi0 : (0 : Int) ≤ (i : Int) := by omega
      have hi1 : (i : Int) < (len : Int) := by have := HL.out; omega
      have hi60 : i < 60 := by have := HL.out; omega
      clear hrx hc0
      go_wp2_with fail
      clear g3 glt f0 hbo hc1 hbB
      go_loopw [7, 29] (fun v i' wr => ∃ j : Nat, j ≤ ps[i].right.length ∧ i' = .int .i64 j ∧ Hid (ORel w 138 2 w.heap.size 24 #[.int .i64 t, .int .i64 n, .int .i64 s, .slice (some ⟨b, off, none⟩) len c] (Lf.outTo ps nl l k ++ Lf.stPre ps nl i j).length (stRow (Lf.outTo ps nl l k ++ Lf.stPre ps nl i j)) v wr) ∧ Hid (RdT wr 3 (some ⟨bo, oo, none⟩) (ins (ns l)))) (fun _ i' _ => ps[i].right.length - (intOf i').toNat)
      case atStart => exact ⟨0, Nat.zero_le _, rfl, HR.out.is (by rw [Lf.stPre_zero, List.append_nil]) (by rw [Lf.stPre_zero, List.append_nil]), HF.out⟩
      case round =>
        obtain ⟨j, hjl, rfl, HRj, HFj⟩ := hrel
        by_cases hjt : j < ps[i].right.length
        · have HYs := Lib.hid (fun h => Lf.stPre_yes (ps := ps) (nl := nl) (i := i) (k := j) h)
          have HNs := Lib.hid (fun h => Lf.stPre_no (ps := ps) (nl := nl) (i := i) (k := j) h)
          have HPl := Lib.hid (Lf.stPre_len (ps := ps) (nl := nl) (i := i) j)
          have HTo := Lib.hid HTl.out
          have HSt := Lib.hid (Bk.new wr 138 #[.int .i64 i, .int .i64 j])
          have HR6 := Lib.hid (HRj.out.alloc (.cells #[.int .i64 i, .int .i64 j] 138))
          have HF6 := Lib.hid (HFj.out.keep ((KeepT.refl _ _).alloc (.cells #[.int .i64 i, .int .i64 j] 138)))
          have HM6 := Lib.hid (HMp.out.bl HR6.out.b)
          have HSm : Hid (Small (i, j)) := ⟨by show i < _; omega, by show j < _; omega⟩
          generalize Lf.outTo ps nl l k = lt at HRj HR6 HTo ⊢
          cases hst : Lf.isStep ps nl (i, j) with
          | false =>
            have HX := Lib.hid (HR6.out.is (m := (lt ++ Lf.stPre ps nl i (j + 1)).length) (ys := stRow (lt ++ Lf.stPre ps nl i (j + 1))) (by rw [HNs.out hst]) (by rw [HNs.out hst]))
            go_wp2_with (at_lookup; refine wpList_look_ok rfl (.tmp 36) (.tmp 37) rfl HM6.out (i, j) HSm.out rfl rfl ?_; rw [hst]; intro c5 _)
            go_roundw
            case rel => exact ⟨j + 1, by omega, by go_num, HX.out, HF6.out⟩
            case measure => simp [intOf]; omega
          | true =>
            have HNx := Lib.hid (HYs.out hst)
            generalize hlp : Lf.stPre ps nl i j = lp at *
            have hlq : (lt ++ lp).length ≤ 500 := by
              have h1 : lt.length ≤ 8 * k := HTo.out
              have h2 : lp.length ≤ j := HPl.out
              rw [List.length_append]; omega
            have HLp := Lib.hid hlp; clear hlp
            have hlen2 : (lt ++ (lp ++ [(i, j)])).length = (lt ++ lp).length + 1 := by simp [List.length_append]; omega
            have hrow2 : stRow (lt ++ (lp ++ [(i, j)])) = stRow (lt ++ lp) ++ [.int .i64 i, .int .i64 j] := by rw [← List.append_assoc, stRow_snoc]
            have HN2 := Lib.hid hlen2; have HW2 := Lib.hid hrow2
            clear hlen2 hrow2
            generalize (lt ++ lp).length = nn at *
            generalize stRow (lt ++ lp) = rw_ at *
            have HOw := Lib.hid HR6.out.own
            have HMore := Lib.hid (fun (w2 : World) (v2 : Value) (o : Obj) (m : Nat) (ys : List Value) ho hg => HR6.out.more (w2 := w2) (v2 := v2) (o := o) (m := m) (ys := ys) ho hg (by decide))
            have HKeep := Lib.hid (fun (w2 : World) (o : Obj) hg => HF6.out.keep (HR6.out.rows (w2 := w2) (o := o) hg (by decide)))
            have hsz : w.heap.size ≤ wr.heap.size := HRj.out.b.size
            go_wp2_with (first
              | (at_lookup; refine wpList_look_ok rfl (.tmp 36) (.tmp 37) rfl HM6.out (i, j) HSm.out rfl rfl ?_; rw [hst]; intro c5 _)
              | (at_builtin; refine wpList_append_own _ rfl (.tmp 42) (.tmp 44) 121 rfl w.heap.size 138 i0 (.agg #[.int .i64 0, .int .i64 0]) 2 16 Try.underlying121 hi hz0 hz1 hz2 rfl (by decide) _ _ _ rfl (HOw.out.alloc _) ⟨wr.heap.size + 1, 0, none⟩ 1 1 [.int .i64 (i : Int), .int .i64 (j : Int)] rfl rfl (by have h := cells_new (wr.alloc (.cells #[.int .i64 i, .int .i64 j] 138)) #[.int .i64 i, .int .i64 j] 138; rw [World.size_alloc] at h; exact h) (by simp [Value.oneCell']) (by simp only [maxLen]; omega) (by omega) (by simp; omega) ?_; intro v2 w2 hown2 hg2 _; have HY := Lib.hid (HMore.out _ _ _ _ _ hown2 hg2); have HZ := Lib.hid (HKeep.out _ _ hg2); clear hown2 hg2))
            go_roundw
            case rel => exact ⟨j + 1, by omega, by go_num, by rw [HNx.out]; exact HY.out.is HN2.out HW2.out, HZ.out⟩
            case measure => simp [intOf]; omega
        · have HX := Lib.hid (HRj.out.is (m := (Lf.outTo ps nl l (k + 1)).length) (ys := stRow (Lf.outTo ps nl l (k + 1))) (by rw [HSuc.out, show j = ps[i].right.length by omega]) (by rw [HSuc.out, show j = ps[i].right.length by omega]))
          go_wp2_with fail
          go_roundw
          case rel => exact ⟨k + 1, by omega, by go_num, HX.out, HFj.out⟩
          case measure => simp [intOf]; omega
    · have hke : k = l.length := by omega
      have HE := Lib.hid (HR.out.is (m := (Lf.outs ps nl m).length) (ys := stRow (Lf.outs ps nl m)) (by rw [HOs.out, hke]) (by rw [HOs.out, hke]))
      have hle : (Lf.outs ps nl m).length ≤ 480 := by
        have := HOl.out l.length (Nat.le_refl _)
        rw [HOs.out]; omega
      obtain ⟨Av, cv, hv, _⟩ := own_form HE.out.own
      subst hv
      clear hke HR
      go_wp2_with fail
      go_ret
      exact ⟨_, _, _, rfl, rfl, hle, HE.out.own, HE.out.b⟩

/-- slices.Clip: the same elements, and no room behind them. -/
theorem clip_any (A : Option Addr) (len c : Nat) (w : World) (hc : len ≤ c) : Calls Try.prog 95 #[.slice A len c] w fun e w' => e = .returned (.slice A len len) ∧ w' = w := by
  go_enter Try.func95, Try.ntmps95
  go_wp2_with fail
  go_ret
  exact ⟨rfl, rfl⟩
end Go.Proofs.Ytbncgjccmadkbaa
