/- The reference's lists, read and written; are ints the same? -/
import Derived.Test.YthhlgjedgbdgcaaVRPut
import Derived.Test.YthhlgjedgbdgcaaVSame
import Derived.Test.YthhlgjedgbdgcaaWRef
import Derived.Test.YthhlgjedgbdgcaaWWtr
namespace Go.Proofs.Ythhlgjedgbdgcaa
open Go.RowKit

/-- What the reference's Nums leaves. -/
def RNPost (xs : List Nat) (s : Wr.St) (B g : Nat) (w : World) (e : Ending) (w' : World) : Prop :=
  ∃ v, e = .returned v ∧ w'.ownsRow w.heap.size 3 1 v xs.length (ins (ns xs)) ∧ RRd w' B g s ∧ Fr (fun k => k = g) w w'

section
variable {s1 : Wr.St} {most B g k : Nat} {w w1 w2 : World} {v v' : Value}
theorem reach_next (hB : B ≤ w.heap.size) (ho : w1.ownsRow w.heap.size 3 1 v k (ins (ns (Wr.many k s1 most).1)))
    (hr : RRd w1 B g (Wr.num (Wr.many k s1 most).2 most).2) (hf : Fr (fun i => i = g) w w1)
    (ho' : w2.ownsRow w.heap.size 3 1 v' (k + 1) (ins (ns (Wr.many k s1 most).1) ++ [.int .i64 ((Wr.num (Wr.many k s1 most).2 most).1 : Int)])) {o : Obj} (hg : (w1.alloc o).grownBy w2 v.ownBlock) :
    w2.ownsRow w.heap.size 3 1 v' (k + 1) (ins (ns (Wr.many (k + 1) s1 most).1)) ∧ RRd w2 B g (Wr.many (k + 1) s1 most).2 ∧ Fr (fun i => i = g) w w2 := by
  have e := Wr.many_snoc k s1 most
  refine ⟨?_, ?_, ?_⟩
  · rw [e]
    simpa [ns_append, ins_append, ns, ins] using ho'
  · rw [e]
    exact (hr.alloc o).grown (ho.alloc o) (by decide) hB hg
  · exact (hf.alloc o).grown hg fun i hi hlt => absurd (ho.lt i hi).1 (by omega)
end

set_option maxRecDepth 100000 in
set_option maxHeartbeats 1000000 in
theorem rnums_any (B g : Nat) (s : Wr.St) (mn most : Nat) (w : World) (h : RRd w B g s) (hmn : mn ≤ 1000000000) (hmost : most < 9223372036854775808) :
    Calls Try.prog 20 #[.pointer (some ⟨g, 0, none⟩), .int .i64 mn, .int .i64 most] w (RNPost (Wr.nums s mn most).1 (Wr.nums s mn most).2 B g w) := by
  obtain ⟨i0, hi, hz0, hz1, hz2⟩ := info_parts int_info
  have HR := Lib.hid (h.alloc (.cells #[] 3))
  have hB := h.le
  have hlt0 := h.lt
  clear h
  go_enter Try.func20, Try.ntmps20
  go_wp2_with fail
  refine (rnum_any B g s mn _ HR.out (by omega)).mono ?_
  rintro e w0 ⟨rfl, hr0, hf0⟩
  have own0 : Hid ((w.alloc (.cells #[] 3)).ownsRow w.heap.size 3 1 (.slice (some ⟨w.heap.size, 0, none⟩) 0 0) 0 []) := World.ownsRow_lit (base := w.heap.size) (e := 3) (size := 1) w #[] 0 (Nat.le_refl _) (by simp [maxLen]) rfl
  have HO0 := Lib.hid (own_fr own0.out hf0 fun i hi e => by injection hi with hi; have hi : w.heap.size = i := hi; omega)
  have hn := Wr.num_le s mn
  have HR0 := Lib.hid hr0
  have HF0 : Hid (Fr (fun k => k = g) w w0) := ((Fr.refl _ w).alloc _).same hf0
  have HDone : Hid ((Wr.many (Wr.num s mn).1 (Wr.num s mn).2 most).2.e = 0 → Wr.nums s mn most = Wr.many (Wr.num s mn).1 (Wr.num s mn).2 most) := Wr.nums_done
  have HWrong : Hid (∀ k, k ≤ (Wr.num s mn).1 → (Wr.many k (Wr.num s mn).2 most).2.e ≠ 0 → Wr.nums s mn most = ([], (Wr.many k (Wr.num s mn).2 most).2)) := fun k hk h => Wr.nums_wrong hk h
  clear hr0 hf0
  generalize (Wr.num s mn).1 = n at *
  generalize (Wr.num s mn).2 = s1 at *
  go_wp2_with fail
  go_loopw [7, 9] (fun v i wr => ∃ k : Nat, k ≤ n ∧ i = .int .i64 k ∧ Hid (wr.ownsRow w.heap.size 3 1 v k (ins (ns (Wr.many k s1 most).1))) ∧ Hid (RRd wr B g (Wr.many k s1 most).2) ∧ Hid (Fr (fun i => i = g) w wr)) (fun _ i _ => n - (intOf i).toNat)
  case atStart => exact ⟨0, Nat.zero_le _, rfl, HO0, HR0, HF0⟩
  case round =>
    obtain ⟨k, hk, rfl, HO, HRD, HFR⟩ := hrel
    obtain ⟨A1, c1, l1, hk1, _⟩ := HRD.out
    have hcell : wr.cell? ⟨g, 1, none⟩ = some (.int .i64 (Wr.many k s1 most).2.e) := hk1.cell 1
    clear hk1
    by_cases he : (Wr.many k s1 most).2.e = 0
    · have he1 : ((Wr.many k s1 most).2.e == 0) = true := by simp [he]
      have he2 : ((Wr.many k s1 most).2.e != 0) = false := by simp [he]
      have HE := Lib.hid he; clear he
      by_cases hlt : k < n
      · go_wp2_with fail
        refine (rnum_any B g (Wr.many k s1 most).2 most _ HRD.out hmost).mono ?_
        rintro e w1 ⟨rfl, hr1, hf1⟩
        have HO1 := Lib.hid (own_fr HO.out hf1 fun i hi e => HRD.out.row HO.out (by decide) (by rw [hi, e]))
        have HR1 := Lib.hid hr1
        have HF1 : Hid (Fr (fun i => i = g) w w1) := HFR.out.same hf1
        have hs1 : w.heap.size ≤ w1.heap.size := HF1.out.size
        clear hr1 hf1 hcell
        go_wp2_with (at_builtin; refine wpList_append_own _ rfl (.tmp 26) (.tmp 30) 29 rfl w.heap.size 3 i0 (.int .i64 0) 1 8 Try.underlying29 hi hz0 hz1 hz2 rfl (by decide) _ _ _ rfl (HO1.out.alloc _) ⟨w1.heap.size, 0, none⟩ 1 1 [.int .i64 ((Wr.num (Wr.many k s1 most).2 most).1 : Int)] rfl rfl (one_new _ _ _) (by simp [Value.oneCell']) (by simp only [maxLen]; omega) (by omega) (by simp; omega) ?_; intro v' w2 hown' hgrow _; have HX := Lib.hid (reach_next hB HO1.out HR1.out HF1.out hown' hgrow); clear hown' hgrow)
        go_roundw
        case rel => exact ⟨k + 1, by omega, by go_num, HX.out.1, HX.out.2.1, HX.out.2.2⟩
        case measure => simp [intOf]; omega
      · go_wp2_with fail
        go_ret
        have e : k = n := by omega
        subst e
        rw [HDone.out HE.out]
        refine ⟨_, rfl, ?_, HRD.out, HFR.out⟩
        rw [Wr.many_len]
        exact HO.out
    · have he1 : ((Wr.many k s1 most).2.e == 0) = false := by simpa using he
      have he2 : ((Wr.many k s1 most).2.e != 0) = true := by simpa using he
      have HE := Lib.hid he; clear he
      by_cases hlt : k < n
      all_goals
        go_wp2_with fail
        go_ret
        rw [HWrong.out k (by omega) HE.out]
        exact ⟨_, rfl, World.ownsRow_nil _ _ _ _, HRD.out, HFR.out⟩

theorem enc_put (n : Nat) : Vy.put 9 n = Vy.enc n := rfl

set_option maxRecDepth 100000 in
set_option maxHeartbeats 400000 in
/-- The bytes of a list, as the reference makes them. -/
theorem refnums_any (A : Option Addr) (len cap : Nat) (xs : List Int) (w : World) (B : Nat) (hlen : len = xs.length) (hmax : len ≤ 1000000000) (hr : Rd w B A (ins xs)) (hB : B ≤ w.heap.size) (hx : ∀ n ∈ xs, 0 ≤ n ∧ n < 9223372036854775808) :
    Calls Try.prog 11 #[.slice A len cap] w (Makes (Wr.wnums xs) w) := by
  obtain ⟨i0, hi, hz0, hz1, hz2⟩ := info_parts byte_info
  have HL := Lib.hid hlen; clear hlen
  have HA := Lib.hid hr; clear hr
  have HX := Lib.hid hx; clear hx
  have HY := Lib.hid (wsome_len xs)
  have hwr : IntKind.u64.wrap (len : Int) = (len : Int) := IntWalk.u64_in _ ⟨by omega, by omega⟩
  go_enter Try.func11, Try.ntmps11
  go_wp2_with fail
  refine (rput_any 9 len _ (Nat.lt_of_lt_of_le (show len < 18446744073709551616 by omega) (by decide)) (Nat.le_refl _) (by omega)).mono ?_
  rintro e w0 ⟨A0, n0, c0, rfl, hn0, hc0, hown0, hb0⟩
  rw [hn0] at hown0
  have HO0 : Hid (w0.ownsRow w.heap.size 5 1 (.slice A0 n0 c0) (wsome xs 0).length (bys (wsome xs 0))) := by
    have e : wsome xs 0 = Vy.enc len := by unfold wsome; rw [← HL.out]; simp
    unfold Hid
    rw [e]
    rw [hn0]
    exact hown0
  have HB0 : Hid (Bl w w0) := hb0
  clear hn0 hown0 hb0
  go_wp2_with fail
  go_loopw [3, 4] (fun v i wr => ∃ k : Nat, k ≤ len ∧ i = .int .i64 k ∧ Hid (wr.ownsRow w.heap.size 5 1 v (wsome xs k).length (bys (wsome xs k))) ∧ Hid (Bl w wr)) (fun _ i _ => len - (intOf i).toNat)
  case atStart => exact ⟨0, Nat.zero_le _, rfl, HO0, HB0⟩
  case round =>
    obtain ⟨k, hk, rfl, HOk, HBk⟩ := hrel
    by_cases hlt : k < len
    · have hj : k < xs.length := by have := HL.out; omega
      obtain ⟨b, off, rfl, hbB, hcell⟩ := (HA.out.bl hB HBk.out).int hj
      have hxk := HX.out _ (List.getElem_mem hj)
      have HN := Lib.hid (wsome_next hj)
      have hyk := HY.out k
      generalize hm0 : xs[k] = m at hcell hxk HN
      obtain ⟨m0, rfl⟩ : ∃ m0 : Nat, m = (m0 : Int) := ⟨m.toNat, by omega⟩
      have hwm : IntKind.u64.wrap (m0 : Int) = (m0 : Int) := IntWalk.u64_in _ ⟨by omega, by omega⟩
      clear hm0 hj
      go_wp2_with fail
      refine (rput_any 9 m0 _ (Nat.lt_of_lt_of_le (show m0 < 18446744073709551616 by omega) (by decide)) (Nat.le_refl _) (by omega)).mono ?_
      rintro e w1 ⟨A1, n1, c1, rfl, hn1, hc1, hown1, hb1⟩
      have hs1 : w.heap.size ≤ w1.heap.size := Nat.le_trans HBk.out.size (Bl.own hb1).size
      have hel := (Vy.enc_len m0).2
      have hn10 : n1 ≤ 10 := Nat.le_trans (Nat.le_of_eq hn1) hel
      have HN1 : Hid (n1 = (Vy.enc m0).length) := hn1
      have HO1 : Hid (w1.ownsRow wr.heap.size 5 1 (.slice A1 n1 c1) n1 (bys (Vy.enc m0))) := hown1
      have HB1 : Hid (Bl w w1) := HBk.out.trans hb1
      have HOw := Lib.hid (own_bl HOk.out hb1)
      clear hn1 hown1 hb1 hel
      go_wp2_with (at_builtin; refine wpList_append_rd _ rfl (.tmp 15) (.tmp 21) 26 rfl w.heap.size 5 i0 (.int .u8 0) 1 Try.underlying26 hi hz0 hz1 hz2 rfl _ _ _ rfl HOw.out w1.heap.size A1 n1 c1 (bys (Vy.enc m0)) rfl (Rd.own HO1.out) ((bys_len _).trans HN1.out.symm) (bys_one _) (by simp only [maxLen]; omega) (by omega) hs1 ?_; intro v2 w2 hown2 hg2 _; have HO2 := Lib.hid hown2; have HB2 := Lib.hid (HB1.out.grown hg2 fun i h => (HOw.out.lt i h).1); clear hown2 hg2)
      go_roundw
      case rel =>
        refine ⟨k + 1, by omega, by go_num, ?_, HB2⟩
        have h := HO2.out
        unfold Hid
        rw [HN.out, bys_append, List.length_append]
        rw [HN1.out] at h
        exact h
      case measure => simp [intOf]; omega
    · go_wp2_with fail
      go_ret
      have e : k = xs.length := by have := HL.out; omega
      subst e
      have h := HOk.out
      rw [wsome_all] at h
      obtain ⟨A9, c9, hv, hc⟩ := own_slice h
      exact ⟨A9, _, c9, congrArg Ending.returned hv, rfl, hc, by rw [← hv]; exact h, HBk.out⟩

theorem itake_succ_eq {l r : List Int} {k : Nat} (h1 : k < l.length) (h2 : k < r.length) (h : l.take k = r.take k) (hc : l[k] = r[k]) : l.take (k + 1) = r.take (k + 1) := by
  rw [List.take_succ_eq_append_getElem h1, List.take_succ_eq_append_getElem h2, h, hc]

set_option maxRecDepth 100000 in
set_option maxHeartbeats 400000 in
theorem isame_any (A A' : Option Addr) (len len' cap cap' : Nat) (l r : List Int) (w : World) (B : Nat) (hl : len = l.length) (hl' : len' = r.length) (hmax : len ≤ 9223372036854775807)
    (hr : Rd w B A (ins l)) (hr' : Rd w B A' (ins r)) :
    Calls Try.prog 18 #[.slice A len cap, .slice A' len' cap'] w (Quiet (.bool (decide (l = r))) w) := by
  have HL := Lib.hid hl; clear hl
  have HL' := Lib.hid hl'; clear hl'
  have HR := Lib.hid hr; clear hr
  have HR' := Lib.hid hr'; clear hr'
  by_cases hne : len = len'
  · have hq : ((len : Int) != (len' : Int)) = false := by simp; omega
    have HN := Lib.hid hne; clear hne
    go_enter Try.func18, Try.ntmps18
    go_wp2
    go_loopw [5] (fun i wr => ∃ (k q : Nat), k ≤ len ∧ i = .int .i64 k ∧ wr = w.drewN q ∧ Hid (l.take k = r.take k)) (fun i _ => len - (intOf i).toNat)
    case atStart => exact ⟨0, 0, by omega, rfl, rfl, by simp [Hid]⟩
    case round =>
      obtain ⟨k, q, hk, rfl, rfl, HT⟩ := hrel
      by_cases hlt : k < len
      · have hj : k < l.length := by have := HL.out; omega
        have hj' : k < r.length := by have := HL'.out; have := HN.out; omega
        obtain ⟨b, off, rfl, _, hcell⟩ := HR.out.int hj
        obtain ⟨b', off', rfl, _, hcell'⟩ := HR'.out.int hj'
        have hlt' : k < len' := by have := HN.out; omega
        have HS := Lib.hid (itake_succ_eq hj hj' HT.out)
        have HD := Lib.hid (fun (h : l = r) => (by subst h; rfl : l[k] = r[k]))
        generalize l[k] = c at hcell HS HD
        generalize r[k] = c' at hcell' HS HD
        clear hj hj'
        by_cases hcc : c = c'
        · have hq2 : (c != c') = false := by simp [hcc]
          have HC := Lib.hid hcc; clear hcc
          go_wp2
          go_quiet (fail)
          go_wp2
          go_roundw
          case rel => exact ⟨k + 1, _, by omega, by go_num, rfl, HS.out HC.out⟩
          case measure => simp [intOf]; omega
        · have hq2 : (c != c') = true := by simpa using hcc
          have hf : decide (l = r) = false := by simp; intro h; exact hcc (HD.out h)
          have HF := Lib.hid hf; clear hf
          go_wp2
          go_quiet (fail)
          go_wp2
          go_ret
          exact ⟨by rw [HF.out]; rfl, _, World.drewN_drewN _ _ _⟩
      · go_wp2
        go_ret
        have e : l = r := by
          have h1 := HT.out; have h2 := HL.out; have h3 := HL'.out; have h4 := HN.out
          rw [List.take_of_length_le (by omega), List.take_of_length_le (by omega)] at h1
          exact h1
        exact ⟨by rw [decide_eq_true e]; rfl, _, rfl⟩
  · have hq : ((len : Int) != (len' : Int)) = true := by simp; omega
    have hf : decide (l = r) = false := by simp; rintro rfl; have := HL.out; have := HL'.out; omega
    have HF := Lib.hid hf; clear hf
    go_enter Try.func18, Try.ntmps18
    go_wp2
    go_ret
    exact ⟨by rw [HF.out]; rfl, 0, rfl⟩
end Go.Proofs.Ythhlgjedgbdgcaa
