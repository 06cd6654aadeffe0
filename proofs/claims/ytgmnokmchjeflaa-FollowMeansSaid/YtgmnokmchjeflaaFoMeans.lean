/- FollowMeans' contract: what stands behind a nonterminal in what comes of Start is in its set. -/
import Derived.Test.YtgmnokmchjeflaaFoAwake
import Derived.Test.YtgmnokmchjeflaaFoClo
import Derived.Test.YtgmnokmchjeflaaFoApp
import Derived.Test.YtgmnokmchjeflaaKLarge
import Derived.Test.YtgmnokmchjeflaaGRRight
import Derived.Deep.RegionHeld3
import Derived.BigQuiet
namespace Go.Proofs.Ytgmnokmchjeflaa
open Go.RowKit

/-- What the row is: all that stands behind is in the sets; its symbols are the grammar's. -/
structure RowOk (g : Gr.Gm) (N : Nat) (row : List Gr.Sy) : Prop where
  beh : Fi.Behind (Fi.tb (Fi.numR g)) (Fi.nulls g) (Fi.tb (Fi.numW g)) row
  sy : Fi.SyOk N row
theorem sy_info : (Try.prog.info? 39).map (fun i => (i.zero, i.size, i.bytes)) = some (some (.agg #[.bool false, .int .i64 0]), 2, 16) := by kernel_rfl
theorem rowOk_start {g : Gr.Gm} (hg : Gr.Ok g) {N : Nat} (hN : g.nons.toNat = N) : RowOk g N [⟨true, g.start⟩] := by
  refine ⟨Fi.behind_start hg (Fi.follow_numW hg), fun x hx => ?_⟩
  obtain rfl := List.mem_singleton.1 hx
  have h1 := hg.2.2.2.2.1
  have h2 := hg.2.2.2.2.2.1
  exact ⟨h1, fun _ => by show g.start < (N : Int); omega, fun e => by cases e⟩
theorem rowOk_turn {g : Gr.Gm} (hg : Gr.Ok g) {N : Nat} (hN : g.nons.toNat = N) {row : List Gr.Sy} (h : RowOk g N row) {k : Nat} {a : Gr.Sy} (ha : row[k]? = some a) (hn : a.non = true) {p : Gr.Pr} (hp : p ∈ g.prods) (he : a.n = p.left) :
    RowOk g N (row.take k ++ (p.right ++ row.drop (k + 1))) := by
  obtain ⟨hk, rfl⟩ := List.getElem?_eq_some_iff.1 ha
  have hr : row = row.take k ++ row[k] :: row.drop (k + 1) := by rw [← List.drop_eq_getElem_cons hk, List.take_append_drop]
  refine ⟨Fi.behind_turn hg (Fi.first_numR hg) (Fi.follow_numW hg) hp hn he (by rw [← hr]; exact h.beh), fun x hx => ?_⟩
  rcases List.mem_append.1 hx with h1 | h1
  · exact h.sy x (List.mem_of_mem_take h1)
  · rcases List.mem_append.1 h1 with h2 | h2
    · have := Fi.syOk_prod hg hp x h2
      rw [hN] at this
      exact this
    · exact h.sy x (List.mem_of_mem_drop h2)
theorem row_last {g : Gr.Gm} {N : Nat} {row : List Gr.Sy} (h : RowOk g N row) {m : Nat} {s : Gr.Sy} (hs : row[m]? = some s) (hn : s.non = true) (hl : m + 1 = row.length) : ((Fi.numW g).getD s.n.toNat 0).testBit 16 = true := by
  obtain ⟨hm, rfl⟩ := List.getElem?_eq_some_iff.1 hs
  have hr : row = row.take m ++ row[m] :: row.drop (m + 1) := by rw [← List.drop_eq_getElem_cons hm, List.take_append_drop]
  exact (h.beh _ _ _ hr hn).2 (by rw [List.drop_of_length_le (by omega)]; rfl)
theorem row_next {g : Gr.Gm} {N : Nat} {row : List Gr.Sy} (h : RowOk g N row) {m : Nat} {s y : Gr.Sy} (hs : row[m]? = some s) (hn : s.non = true) (hy : row[m + 1]? = some y) (hyn : y.non = false) {d : Nat} (hd : y.n = (d : Int)) : ((Fi.numW g).getD s.n.toNat 0).testBit d = true := by
  obtain ⟨hm, rfl⟩ := List.getElem?_eq_some_iff.1 hs
  obtain ⟨hm1, rfl⟩ := List.getElem?_eq_some_iff.1 hy
  have hr : row = row.take m ++ row[m] :: row.drop (m + 1) := by rw [← List.drop_eq_getElem_cons hm, List.take_append_drop]
  refine (h.beh _ _ _ hr hn).1 d ?_
  rw [List.drop_eq_getElem_cons hm1]
  unfold Fi.of
  rw [if_neg (by rw [hyn]; decide)]
  exact decide_eq_true (by omega)

set_option maxRecDepth 100000 in
set_option maxHeartbeats 8000000 in
theorem followMeans_any (t n s : Int) (A : Option Addr) (len c : Nat) (ps : List Gr.Pr) (Ab : Option Addr) (lb cb : Nat) (bs : List Nat) (W : World)
    (hlen : len = ps.length) (hmax : len ≤ 9223372036854775807) (hr : PrsC W W.heap.size A ps) (hlb : lb = bs.length) (hmb : lb ≤ 9223372036854775807) (hrb : Rd W W.heap.size Ab (bys bs)) (hby : ∀ x ∈ bs, x < 256) :
    Calls Try.prog 5 #[.agg #[.int .i64 t, .int .i64 n, .int .i64 s, .slice A len c], .slice Ab lb cb] W fun e w' => e = .returned (.bool true) ∧ Bl W w' := by
  obtain ⟨i0, hi, hz0, hz1, hz2⟩ := info_parts sy_info
  have HL := Lib.hid hlen; clear hlen
  have HLB := Lib.hid hlb; clear hlb
  have HY := Lib.hid hby; clear hby
  have HP : Hid (∀ w', Bl W w' → PrsC w' w'.heap.size A ps) := fun _ hb => (hr.bl (Nat.le_refl _) hb).more hb.size
  have HF : Hid (∀ w', Bl W w' → Rd w' w'.heap.size Ab (bys bs)) := fun _ hb => rd_on hrb hb
  clear hr hrb
  have HB0 : Hid (Bl W (W.alloc (.cells #[.int .i64 t, .int .i64 n, .int .i64 s, .slice A len c] 24))) := (Bl.refl W).alloc _
  have HK0 := Lib.hid (Bk.new W 24 #[.int .i64 t, .int .i64 n, .int .i64 s, .slice A len c])
  go_enter Try.func5, Try.ntmps5
  go_wp2_with fail
  refine (awake12_any _).mono ?_
  rintro e w1 ⟨rfl, hb1⟩
  have HB1 := Lib.hid (HB0.out.trans hb1)
  have HK1 := Lib.hid (HK0.out.bl hb1)
  clear hb1 HB0 HK0
  have k0 : w1.cell? ⟨W.heap.size, 0, none⟩ = some (.int .i64 t) := HK1.out.cell 0
  have k1 : w1.cell? ⟨W.heap.size, 1, none⟩ = some (.int .i64 n) := HK1.out.cell 1
  have k2 : w1.cell? ⟨W.heap.size, 2, none⟩ = some (.int .i64 s) := HK1.out.cell 2
  have k3 : w1.cell? ⟨W.heap.size, 3, none⟩ = some (.slice A len c) := HK1.out.cell 3
  go_wp2_with fail
  refine (large9_any t n s A len c ps _ w1.heap.size HL.out hmax (HP.out _ HB1.out).prs (Nat.le_refl _)).mono ?_
  rintro e w2 ⟨rfl, hb2⟩
  have HB2 := Lib.hid (HB1.out.trans hb2)
  have HK2 := Lib.hid (HK1.out.bl hb2)
  clear hb2 k0 k1 k2 k3 HB1 HK1
  cases hlg : lgB ps with
  | true =>
    go_wp2_with fail
    go_ret
    exact ⟨rfl, HB2.out⟩
  | false =>
  clear hlg
  have k0 : w2.cell? ⟨W.heap.size, 0, none⟩ = some (.int .i64 t) := HK2.out.cell 0
  have k1 : w2.cell? ⟨W.heap.size, 1, none⟩ = some (.int .i64 n) := HK2.out.cell 1
  have k2 : w2.cell? ⟨W.heap.size, 2, none⟩ = some (.int .i64 s) := HK2.out.cell 2
  have k3 : w2.cell? ⟨W.heap.size, 3, none⟩ = some (.slice A len c) := HK2.out.cell 3
  go_wp2_with fail
  refine (rright_any t n s A len c ps _ w2.heap.size HL.out hmax (HP.out _ HB2.out).prs (Nat.le_refl _)).mono ?_
  rintro e w3 ⟨rfl, hb3⟩
  have HB3 := Lib.hid (HB2.out.trans hb3)
  have HK3 := Lib.hid (HK2.out.bl hb3)
  clear hb3 k0 k1 k2 k3 HB2 HK2
  cases hok : okB ⟨t, n, s, ps⟩ with
  | false =>
    go_wp2_with fail
    go_ret
    exact ⟨rfl, HB3.out⟩
  | true =>
  by_cases h40 : 40 < lb
  · go_wp2_with fail
    go_ret
    exact ⟨rfl, HB3.out⟩
  have k0 : w3.cell? ⟨W.heap.size, 0, none⟩ = some (.int .i64 t) := HK3.out.cell 0
  have k1 : w3.cell? ⟨W.heap.size, 1, none⟩ = some (.int .i64 n) := HK3.out.cell 1
  have k2 : w3.cell? ⟨W.heap.size, 2, none⟩ = some (.int .i64 s) := HK3.out.cell 2
  have k3 : w3.cell? ⟨W.heap.size, 3, none⟩ = some (.slice A len c) := HK3.out.cell 3
  have klt : W.heap.size < w3.heap.size := HK3.out.lt
  by_cases h0 : len = 0
  · subst h0
    go_wp2_with fail
    go_ret
    exact ⟨rfl, HB3.out⟩
  obtain ⟨n1, n2, n3⟩ := ok_nons hok
  obtain ⟨N, rfl⟩ : ∃ N : Nat, n = (N : Int) := ⟨n.toNat, by omega⟩
  have HOk0 : Hid (Gr.Ok ⟨t, (N : Int), s, ps⟩) := (okB_iff _).1 hok
  have hst := Fi.start_lt HOk0.out
  obtain ⟨S, rfl⟩ : ∃ S : Nat, s = (S : Int) := ⟨s.toNat, by have h5 : (0 : Int) ≤ s := HOk0.out.2.2.2.2.1; omega⟩
  have hS : S < N := hst
  have HOK := Lib.hid hok
  have HOk : Hid (Gr.Ok ⟨t, (N : Int), (S : Int), ps⟩) := (okB_iff _).1 hok
  have HFi := Lib.hid (followsOf_ok hok)
  have hlx60 : len ≤ 60 := by have := HL.out; omega
  have HRw0 : Hid (RowOk ⟨t, (N : Int), (S : Int), ps⟩ N [⟨true, (S : Int)⟩]) := rowOk_start HOk.out rfl
  have HWt := Lib.hid (Fi.numW_lt ⟨t, (N : Int), (S : Int), ps⟩)
  have HWl : Hid ((Fi.numW ⟨t, (N : Int), (S : Int), ps⟩).length = N) := Fi.numW_len _
  have hq0 : ((len : Int) == 0) = false := by simp; omega
  clear hok hst HOk0
  go_wp2_with fail
  refine (follow_any t (N : Int) (S : Int) A len c ps _ w3.heap.size HL.out hmax (HP.out _ HB3.out) (Nat.le_refl _)).mono ?_
  intro e w4 h4
  obtain ⟨A4, c4, he4, hr4, hb4⟩ := h4.lit (k := N) HFi.out HWl.out
  subst he4
  have HN4 := Lib.hid hr4
  have HB4 := Lib.hid (HB3.out.trans hb4)
  have HK4 := Lib.hid (HK3.out.bl hb4)
  clear h4 hr4 hb4 k0 k1 k2 k3 klt HB3 HK3
  obtain ⟨b4, o4, rfl, hb4, hc4⟩ := HN4.out.u32 (j := S) (by rw [HWl.out]; exact hS)
  have HU : Hid (∀ w', Bl w4 w' → ∀ j, j < N → w'.cell? ⟨b4, o4 + j, none⟩ = some (.int .u32 ((Fi.numW ⟨t, (N : Int), (S : Int), ps⟩).getD j 0 : Int))) := fun w' hb j hj => by
    obtain ⟨b5, o5, e5, hb5, hc5⟩ := HN4.out.u32 (j := j) (by rw [HWl.out]; exact hj)
    injection e5 with e5
    injection e5 with e6 e7
    subst e6 e7
    exact (Below.cell hb (p := ⟨b4, o4 + j, none⟩) hb5).trans hc5
  have k1 : w4.cell? ⟨W.heap.size, 1, none⟩ = some (.int .i64 (N : Int)) := HK4.out.cell 1
  have k2 : w4.cell? ⟨W.heap.size, 2, none⟩ = some (.int .i64 (S : Int)) := HK4.out.cell 2
  have klt : W.heap.size < w4.heap.size := HK4.out.lt
  have HR0 : Hid (Rd (w4.alloc (.cells #[.bool true, .int .i64 S] 39)) (w4.alloc (.cells #[.bool true, .int .i64 S] 39)).heap.size (some ⟨w4.heap.size, 0, none⟩) (syRow [⟨true, (S : Int)⟩])) := rd_lit _ _ _ _ _ _ rfl (by rw [World.size_alloc]; omega) rfl
  have HBA : Hid (Bl w4 (w4.alloc (.cells #[.bool true, .int .i64 S] 39))) := (Bl.refl w4).alloc _
  have H0 := Lib.hid h0
  have HU0 := Lib.hid hb4
  clear hc4 hb4 h0
  go_wp2_with fail
  clear k1 k2 klt
  go_loopw [6, 7] (fun v i wr => ∃ (q cr lr : Nat) (Ar : Option Addr) (row : List Gr.Sy), q ≤ lb + 1 ∧ i = .int .i64 q ∧ v = .slice Ar lr cr ∧ Hid (lr = row.length) ∧ lr ≤ cr ∧ lr ≤ 100 ∧ Hid (Rd wr wr.heap.size Ar (syRow row)) ∧ Hid (RowOk ⟨t, (N : Int), (S : Int), ps⟩ N row) ∧ Hid (Bl w4 wr)) (fun _ i _ => lb - (intOf i).toNat)
  case atStart => exact ⟨0, 1, 1, _, [⟨true, (S : Int)⟩], by omega, rfl, rfl, rfl, Nat.le_refl _, by omega, HR0.out, HRw0.out, HBA.out⟩
  case round =>
    obtain ⟨q, cr, lr, Ar, row, hq, rfl, rfl, HLr, hrc, hr100, HRr, HRo, HBr⟩ := hrel
    obtain ⟨wq, rfl⟩ : ∃ wq : World, wq = wr := ⟨_, rfl⟩
    have HBw := Lib.hid (HB4.out.trans HBr.out)
    by_cases hql : q + 1 < lb
    · have hq1 : (q : Int) + 1 < (lb : Int) := by omega
      have hj : q + 1 < bs.length := by have := HLB.out; omega
      have hj0 : q < bs.length := by omega
      obtain ⟨bb, ob, rfl, hbb, hcb⟩ := (HF.out _ HBw.out).byte hj
      have HC0 : Hid (∀ w', Bl W w' → w'.cell? ⟨bb, ob + q, none⟩ = some (.int .u8 (bs[q] : Int))) := fun w' hb => (HF.out _ hb).byte_at hj0
      have hx := HY.out _ (List.getElem_mem hj)
      have hx0 := HY.out _ (List.getElem_mem hj0)
      generalize bs[q + 1] = x at *
      generalize bs[q] = x0 at *
      have hlp : 0 < len := by have := H0.out; omega
      obtain ⟨r, hrx⟩ : ∃ r, x % len = r := ⟨_, rfl⟩
      have hrl : r < len := by rw [← hrx]; exact Nat.mod_lt _ hlp
      have hrm1 : Int.tmod (x : Int) (len : Int) = (r : Int) := by rw [← Int.ofNat_tmod, hrx]
      have hrp : r < ps.length := by have := HL.out; omega
      obtain ⟨b, off, Ax, cx, rfl, hbB, hrx', hc0, hc1, hcx, hcm⟩ := (HP.out _ HBw.out).at_ hrp
      have HKq := Lib.hid (HK4.out.bl HBr.out)
      have k3 : wq.cell? ⟨W.heap.size, 3, none⟩ = some (.slice (some ⟨b, off, none⟩) len c) := HKq.out.cell 3
      have klt : W.heap.size < wq.heap.size := HKq.out.lt
      have hr0 : (0 : Int) ≤ (r : Int) := by omega
      have hr1 : (r : Int) < (len : Int) := by omega
      have hq10 : (0 : Int) ≤ (q : Int) + 1 := by omega
      have hwr : IntKind.i64.wrap ((q : Int) + 1) = (q : Int) + 1 := by simp [IntKind.wrap, IntKind.bits, IntKind.signed]; omega
      obtain ⟨⟨o1, o2⟩, o3, o4'⟩ := ok_syms HOK.out hrp
      have HTurn := Lib.hid (fun (k : Nat) (a : Gr.Sy) (ha : row[k]? = some a) (hn : a.non = true) (he : a.n = ps[r].left) => rowOk_turn HOk.out (N := N) rfl HRo.out ha hn (p := ps[r]) (List.getElem_mem hrp) he)
      have hme : ps[r].left = ((ps[r].left.toNat : Nat) : Int) := by omega
      rw [hme] at hc0 HTurn
      have HRg0 := Lib.hid hrx'
      clear hrx hj hj0 o1 o2 o4' hme hrx'
      generalize ps[r].left.toNat = ml at *
      generalize ps[r].right = right at *
      have hr8 : right.length ≤ 8 := o3
      have HP5 : Hid (Bk (wq.alloc (.cells #[.int .i64 ml, .slice Ax right.length cx] 37)).drew wq.heap.size 37 #[.int .i64 ml, .slice Ax right.length cx]) := (Bk.new wq _ _).drew
      have HB5 : Hid (Bl wq (wq.alloc (.cells #[.int .i64 ml, .slice Ax right.length cx] 37)).drew) := ((Bl.refl wq).alloc _).drew
      clear o3 hrp
      go_wp2_with fail
      go_region
      generalize hw5 : (wq.alloc (.cells #[.int .i64 ml, .slice Ax right.length cx] 37)).drew = w5 at HP5 HB5 ⊢
      have HW5 := Lib.hid hw5
      clear hw5 hcb hc0 hc1 hrm1 hwr k3 klt hr0 hr1 hq10 hbB hbb
      by_cases hz : lr = 0
      · subst hz
        go_wp2_with fail
        go_ret
        exact ⟨rfl, HBw.out.trans HB5.out⟩
      by_cases h60 : 60 < lr
      · have hqz : ((lr : Int) == 0) = false := by simp; omega
        go_wp2_with fail
        go_ret
        exact ⟨rfl, HBw.out.trans HB5.out⟩
      have hqz : ((lr : Int) == 0) = false := by simp; omega
      have hqn : ¬ ((lr : Int) = 0) := by omega
      obtain ⟨k, hkx⟩ : ∃ k, x0 % lr = k := ⟨_, rfl⟩
      have hkl : k < lr := by rw [← hkx]; exact Nat.mod_lt _ (by omega)
      have hkm : Int.tmod (x0 : Int) (lr : Int) = (k : Int) := by rw [← Int.ofNat_tmod, hkx]
      have hcb0 := HC0.out _ (HBw.out.trans HB5.out)
      have hbb0 : bb < w5.heap.size := World.block_lt_of_cell? _ _ hcb0
      have hkr : k < row.length := by have := HLr.out; omega
      have HRr5 := Lib.hid (rd_on HRr.out HB5.out)
      obtain ⟨bs', os, rfl, hbs, hs0, hs1⟩ := HRr5.out.sym hkr
      have hgk : row[k]? = some row[k] := List.getElem?_eq_getElem hkr
      have hsn := (HRo.out.sy _ (List.getElem_mem hkr)).1
      have HTu := Lib.hid (fun hn he => HTurn.out k _ hgk hn he)
      have p0 : w5.cell? ⟨wq.heap.size, 0, none⟩ = some (.int .i64 ml) := HP5.out.cell 0
      have plt : wq.heap.size < w5.heap.size := HP5.out.lt
      have hk0 : (0 : Int) ≤ (k : Int) := by omega
      have hk1 : (k : Int) < (lr : Int) := by omega
      have hq00 : (0 : Int) ≤ (q : Int) := by omega
      have hq01 : (q : Int) < (lb : Int) := by omega
      have HKx := Lib.hid hkx
      clear hkx hgk HTurn
      generalize row[k] = sy at *
      obtain ⟨yn, yv⟩ := sy
      simp only at hs0 hs1 hsn
      obtain ⟨nv, rfl⟩ : ∃ nv : Nat, yv = (nv : Int) := ⟨yv.toNat, by omega⟩
      clear hsn
      cases yn with
      | false =>
        go_wp2_with fail
        go_quiet (fail)
        go_wp2_with fail
        go_roundw
        case rel => exact ⟨q + 2, cr, lr, _, row, by omega, by go_num, rfl, HLr.out, hrc, hr100, by first | exact (rd_on HRr.out HB5.out.drew) | exact (rd_on HRr.out (HB5.out.drewN _)), HRo.out, by first | exact (HBr.out.trans HB5.out).drew | exact (HBr.out.trans HB5.out).drewN _⟩
        case measure => simp [intOf]; omega
      | true =>
      by_cases hnl : nv = ml
      case neg =>
        have hnq : ((nv : Int) != (ml : Int)) = true := by simp; omega
        go_wp2_with fail
        go_quiet (fail)
        go_wp2_with fail
        go_roundw
        case rel => exact ⟨q + 2, cr, lr, _, row, by omega, by go_num, rfl, HLr.out, hrc, hr100, by first | exact (rd_on HRr.out HB5.out.drew) | exact (rd_on HRr.out (HB5.out.drewN _)), HRo.out, by first | exact (HBr.out.trans HB5.out).drew | exact (HBr.out.trans HB5.out).drewN _⟩
        case measure => simp [intOf]; omega
      have hnq : ((nv : Int) != (ml : Int)) = false := by simp; omega
      have HRn := Lib.hid (HTu.out rfl (by rw [hnl]))
      have hn1 : (nv : Int) = (ml : Int) := by omega
      clear HTu
      go_wp2_with fail
      go_quiet (fail)
      go_wp2_with fail
      have HP6 := Lib.hid (HP5.out.drewN nq)
      have HB6 := Lib.hid (HB5.out.drewN nq)
      generalize hw6 : w5.drewN nq = w6 at HP6 HB6 ⊢
      have HW6 := Lib.hid hw6
      clear hw6 hcb0 hbb0 hs0 hs1 hkm p0 plt hq00 hq01 hk0 hk1
      have HRr6 := Lib.hid (rd_on HRr.out HB6.out)
      have HRt : Hid (Rd w6 w6.heap.size (some ⟨bs', os, none⟩) (syRow (row.take k))) := HRr6.out.sy_take k
      have HRg : Hid (Rd w6 w6.heap.size Ax (syRow right)) := rd_on HRg0.out HB6.out
      have hrcut : Rd w6 w6.heap.size (if cr = k + 1 then some ⟨bs', os, none⟩ else (some (⟨bs', os, none⟩ : Addr)).map (·.add ((k + 1) * 2))) (syRow (row.drop (k + 1))) := HRr6.out.sy_cut (by have := HLr.out; omega)
      have hsl1 := fun (wx : World) => run_slice_head (P := Try.prog) (t := 35) (e := 39) (size := 2) Try.underlying35 sy_size (some ⟨bs', os, none⟩) lr cr k (k : Int) rfl (by omega) wx
      have hsl2 := fun (wx : World) => run_slice_tail (P := Try.prog) (t := 35) (e := 39) (size := 2) Try.underlying35 sy_size (some ⟨bs', os, none⟩) lr cr (k + 1) ((k : Int) + 1) (by omega) (by omega) wx
      generalize (if cr = k + 1 then some (⟨bs', os, none⟩ : Addr) else (some (⟨bs', os, none⟩ : Addr)).map (·.add ((k + 1) * 2))) = Ay at hrcut hsl2
      have HRd := Lib.hid hrcut
      have HLt : Hid ((row.take k).length = k) := by unfold Hid; rw [List.length_take]; omega
      have HLd : Hid ((row.drop (k + 1)).length = lr - (k + 1)) := by unfold Hid; rw [List.length_drop, ← HLr.out]
      have hwr : IntKind.i64.wrap ((k : Int) + 1) = (k : Int) + 1 := by simp [IntKind.wrap, IntKind.bits, IntKind.signed]; omega
      have HO0 : Hid ((w6.drew.alloc (.cells #[] 39)).ownsRow w6.heap.size 39 2 (.slice (some ⟨w6.heap.size, 0, none⟩) 0 0) 0 []) :=
        World.ownsRow_lit (base := w6.heap.size) (e := 39) (size := 2) w6.drew #[] 0 (Nat.le_refl _) (by simp [maxLen]) rfl
      have HSa0 : Hid (Bl w6 (w6.drew.alloc (.cells #[] 39))) := ((Bl.refl w6).drew).alloc _
      have HPa := Lib.hid (HP6.out.bl HSa0.out)
      have hr100' : lr ≤ 100 := hr100
      clear hrcut
      refine wp_region_held_drew (S := (fun w' => w'.cell? ⟨wq.heap.size, 1, none⟩ = some (.slice Ax right.length cx))) (by kernel_rfl) (HP6.out.cell 1) (fun hHeld => ?_)
      refine wpAnyH_take (i := 1) (oi := ({ dst := some 97, op := Op.move (Operand.tmp 6), type := 35, pos := "law.go:81", after := #[], guard := none } : Oper)) (v := ?_) rfl (by kernel_rfl) (by kernel_rfl) (by kernel_rfl) (fun _ _ _ h => h) (Or.inl ⟨by rfl, ?_⟩) hHeld ?_
      rotate_left
      · (intro w hSw; (try dsimp only at hSw); go_simp) <;> with_reducible rfl
      try simp only [Act.put, List.setIfInBounds_toArray, List.set_cons_zero, List.set_cons_succ]
      refine wpAnyH_take (i := 2) (oi := ({ dst := some 98, op := Op.move (Operand.tmp 9), type := 3, pos := "law.go:81", after := #[], guard := none } : Oper)) (v := ?_) rfl (by kernel_rfl) (by kernel_rfl) (by kernel_rfl) (fun _ _ _ h => h) (Or.inl ⟨by rfl, ?_⟩) hHeld ?_
      rotate_left
      · (intro w hSw; (try dsimp only at hSw); go_simp) <;> with_reducible rfl
      try simp only [Act.put, List.setIfInBounds_toArray, List.set_cons_zero, List.set_cons_succ]
      refine wpAnyH_take (i := 3) (oi := ({ dst := some 99, op := Op.slice 35 (Operand.tmp 97) none (some (Operand.tmp 98)) none, type := 35, pos := "law.go:81", after := #[{ on := 1, ground := Ground.data }, { on := 2, ground := Ground.data }], guard := none } : Oper)) (v := ?_) rfl (by kernel_rfl) (by kernel_rfl) (by kernel_rfl) (fun _ _ _ h => h) (Or.inl ⟨by rfl, ?_⟩) hHeld ?_
      rotate_left
      · (intro w hSw; (try dsimp only at hSw); go_simp) <;> with_reducible rfl
      try simp only [Act.put, List.setIfInBounds_toArray, List.set_cons_zero, List.set_cons_succ]
      refine wpAnyH_take (i := 5) (oi := ({ dst := some 101, op := Op.fieldAddr 37 (Operand.tmp 8) 1, type := 0, pos := "law.go:81", after := #[], guard := none } : Oper)) (v := ?_) rfl (by kernel_rfl) (by kernel_rfl) (by kernel_rfl) (fun _ _ _ h => h) (Or.inl ⟨by rfl, ?_⟩) hHeld ?_
      rotate_left
      · (intro w hSw; (try dsimp only at hSw); go_simp) <;> with_reducible rfl
      try simp only [Act.put, List.setIfInBounds_toArray, List.set_cons_zero, List.set_cons_succ]
      refine wpAnyH_take (i := 6) (oi := ({ dst := some 102, op := Op.load 35 (Operand.tmp 101), type := 35, pos := "law.go:81", after := #[{ on := 5, ground := Ground.data }], guard := none } : Oper)) (v := ?_) rfl (by kernel_rfl) (by kernel_rfl) (by kernel_rfl) (fun _ _ _ h => h) (Or.inl ⟨by rfl, ?_⟩) hHeld ?_
      rotate_left
      · (intro w hSw; (try dsimp only at hSw); go_simp) <;> with_reducible rfl
      try simp only [Act.put, List.setIfInBounds_toArray, List.set_cons_zero, List.set_cons_succ]
      refine wpAnyH_take (i := 8) (oi := ({ dst := some 104, op := Op.move (Operand.tmp 6), type := 35, pos := "law.go:81", after := #[], guard := none } : Oper)) (v := ?_) rfl (by kernel_rfl) (by kernel_rfl) (by kernel_rfl) (fun _ _ _ h => h) (Or.inl ⟨by rfl, ?_⟩) hHeld ?_
      rotate_left
      · (intro w hSw; (try dsimp only at hSw); go_simp) <;> with_reducible rfl
      try simp only [Act.put, List.setIfInBounds_toArray, List.set_cons_zero, List.set_cons_succ]
      refine wpAnyH_take (i := 9) (oi := ({ dst := some 105, op := Op.move (Operand.tmp 9), type := 3, pos := "law.go:81", after := #[], guard := none } : Oper)) (v := ?_) rfl (by kernel_rfl) (by kernel_rfl) (by kernel_rfl) (fun _ _ _ h => h) (Or.inl ⟨by rfl, ?_⟩) hHeld ?_
      rotate_left
      · (intro w hSw; (try dsimp only at hSw); go_simp) <;> with_reducible rfl
      try simp only [Act.put, List.setIfInBounds_toArray, List.set_cons_zero, List.set_cons_succ]
      refine wpAnyH_take (i := 10) (oi := ({ dst := some 106, op := Op.binOp BinOp.add 3 (Operand.tmp 105) (Operand.const (Value.int IntKind.i64 1)) 3, type := 3, pos := "law.go:81", after := #[{ on := 9, ground := Ground.data }], guard := none } : Oper)) (v := ?_) rfl (by kernel_rfl) (by kernel_rfl) (by kernel_rfl) (fun _ _ _ h => h) (Or.inl ⟨by rfl, ?_⟩) hHeld ?_
      rotate_left
      · (intro w hSw; (try dsimp only at hSw); go_simp) <;> with_reducible rfl
      try simp only [Act.put, List.setIfInBounds_toArray, List.set_cons_zero, List.set_cons_succ]
      refine wpAnyH_take (i := 11) (oi := ({ dst := some 107, op := Op.slice 35 (Operand.tmp 104) (some (Operand.tmp 106)) none none, type := 35, pos := "law.go:81", after := #[{ on := 8, ground := Ground.data }, { on := 10, ground := Ground.data }], guard := none } : Oper)) (v := ?_) rfl (by kernel_rfl) (by kernel_rfl) (by kernel_rfl) (fun _ _ _ h => h) (Or.inl ⟨by rfl, ?_⟩) hHeld ?_
      rotate_left
      · (intro w hSw; (try dsimp only at hSw); go_simp) <;> with_reducible rfl
      try simp only [Act.put, List.setIfInBounds_toArray, List.set_cons_zero, List.set_cons_succ]
      refine wpAnyH_ready (rs := [0]) (by kernel_rfl) (by simp) ?_
      refine AllReadyH.cons (o := ({ dst := some 96, op := Op.buildSlice 35 0 #[], type := 35, pos := "law.go:81", after := #[], guard := none } : Oper)) rfl (fun K hK => ?_) AllReadyH.nil
      go_simp
      refine hK.out _ _ (HPa.out.cell 1) (fun hHeld => ?_)
      clear hK K
      try simp only [Act.put, List.setIfInBounds_toArray, List.set_cons_zero, List.set_cons_succ]
      refine wpAnyH_ready (rs := [4]) (by kernel_rfl) (by simp) ?_
      refine AllReadyH.cons (o := ({ dst := some 100, op := Op.call { callee := Callee.builtin Builtin.append, args := #[Operand.tmp 96, Operand.tmp 99], argTypes := #[35, 35] }, type := 35, pos := "law.go:81", after := #[{ on := 0, ground := Ground.data }, { on := 3, ground := Ground.data }], guard := none } : Oper)) rfl (fun K hK => ?_) AllReadyH.nil
      refine step_append_rdN rfl (.tmp 96) (.tmp 99) 35 rfl w6.heap.size 39 i0 (.agg #[.bool false, .int .i64 0]) 2 16 Try.underlying35 hi hz0 hz1 hz2 rfl (by decide) (.slice (some ⟨w6.heap.size, 0, none⟩) 0 0) 0 [] rfl HO0.out (w6.drew.alloc (.cells #[] 39)).heap.size (some ⟨bs', os, none⟩) k cr (syRow (row.take k)) rfl (rd_on HRt.out HSa0.out) ((syRow_len _).trans (by rw [HLt.out])) (syRow_one _) (by simp only [maxLen]; omega) (by omega) HSa0.out.size ?_
      intro v1 x1 hown1 hg1
      rw [Nat.zero_add, List.nil_append] at hown1
      obtain ⟨A1, d1, hv1, hd1⟩ := own_form hown1
      subst hv1
      have HO1 := Lib.hid hown1
      have HSa1 := Lib.hid (HSa0.out.grown hg1 (fun k hk => (HO0.out.lt k hk).1))
      have HPx1 := Lib.hid (HP6.out.bl HSa1.out)
      clear hown1 hg1
      refine hK.out _ _ (HPx1.out.cell 1) (fun hHeld => ?_)
      clear hK K
      try simp only [Act.put, List.setIfInBounds_toArray, List.set_cons_zero, List.set_cons_succ]
      refine wpAnyH_ready (rs := [7]) (by kernel_rfl) (by simp) ?_
      refine AllReadyH.cons (o := ({ dst := some 103, op := Op.call { callee := Callee.builtin Builtin.append, args := #[Operand.tmp 100, Operand.tmp 102], argTypes := #[35, 35] }, type := 35, pos := "law.go:81", after := #[{ on := 4, ground := Ground.data }, { on := 6, ground := Ground.data }, { on := 4, ground := Ground.chain }], guard := none } : Oper)) rfl (fun K hK => ?_) AllReadyH.nil
      refine step_append_rdN rfl (.tmp 100) (.tmp 102) 35 rfl w6.heap.size 39 i0 (.agg #[.bool false, .int .i64 0]) 2 16 Try.underlying35 hi hz0 hz1 hz2 rfl (by decide) (.slice A1 k d1) k (syRow (row.take k)) rfl HO1.out x1.heap.size Ax right.length cx (syRow right) rfl (rd_on HRg.out HSa1.out) ((syRow_len _).trans rfl) (syRow_one _) (by simp only [maxLen]; omega) (by omega) HSa1.out.size ?_
      intro v2 x2 hown2 hg2
      obtain ⟨A2, d2, hv2, hd2⟩ := own_form hown2
      subst hv2
      have HO2 := Lib.hid hown2
      have HSa2 := Lib.hid (HSa1.out.grown hg2 (fun k hk => (HO1.out.lt k hk).1))
      have HPx2 := Lib.hid (HP6.out.bl HSa2.out)
      clear hown2 hg2
      refine hK.out _ _ (HPx2.out.cell 1) (fun hHeld => ?_)
      clear hK K
      try simp only [Act.put, List.setIfInBounds_toArray, List.set_cons_zero, List.set_cons_succ]
      refine wpAnyH_ready (rs := [12]) (by kernel_rfl) (by simp) ?_
      refine AllReadyH.cons (o := ({ dst := some 108, op := Op.call { callee := Callee.builtin Builtin.append, args := #[Operand.tmp 103, Operand.tmp 107], argTypes := #[35, 35] }, type := 35, pos := "law.go:81", after := #[{ on := 7, ground := Ground.data }, { on := 11, ground := Ground.data }, { on := 7, ground := Ground.chain }], guard := none } : Oper)) rfl (fun K hK => ?_) AllReadyH.nil
      refine step_append_rdN rfl (.tmp 103) (.tmp 107) 35 rfl w6.heap.size 39 i0 (.agg #[.bool false, .int .i64 0]) 2 16 Try.underlying35 hi hz0 hz1 hz2 rfl (by decide) (.slice A2 (k + right.length) d2) (k + right.length) (syRow (row.take k) ++ syRow right) rfl HO2.out x2.heap.size Ay (lr - (k + 1)) (cr - (k + 1)) (syRow (row.drop (k + 1))) rfl (rd_on HRd.out HSa2.out) ((syRow_len _).trans (by rw [HLd.out])) (syRow_one _) (by simp only [maxLen]; omega) (by omega) HSa2.out.size ?_
      intro v3 x3 hown3 hg3
      obtain ⟨A3, d3, hv3, hd3⟩ := own_form hown3
      subst hv3
      have HO3 := Lib.hid hown3
      have HSa3 := Lib.hid (HSa2.out.grown hg3 (fun k hk => (HO2.out.lt k hk).1))
      have HPx3 := Lib.hid (HP6.out.bl HSa3.out)
      clear hown3 hg3
      refine hK.out _ _ (HPx3.out.cell 1) (fun hHeld => ?_)
      clear hK K
      try simp only [Act.put, List.setIfInBounds_toArray, List.set_cons_zero, List.set_cons_succ]
      refine wpAnyH_take (i := 13) (oi := ({ dst := some 6, op := Op.assign (Operand.tmp 108), type := 35, pos := "law.go:81", after := #[{ on := 12, ground := Ground.data }, { on := 12, ground := Ground.chain }, { on := 0, ground := Ground.phase }, { on := 1, ground := Ground.phase }, { on := 2, ground := Ground.phase }, { on := 3, ground := Ground.phase }, { on := 4, ground := Ground.phase }, { on := 5, ground := Ground.phase }, { on := 6, ground := Ground.phase }, { on := 7, ground := Ground.phase }, { on := 8, ground := Ground.phase }, { on := 9, ground := Ground.phase }, { on := 10, ground := Ground.phase }, { on := 11, ground := Ground.phase }, { on := 12, ground := Ground.phase }], guard := none } : Oper)) (v := ?_) rfl (by kernel_rfl) (by kernel_rfl) (by kernel_rfl) (fun _ _ _ h => h) (Or.inl ⟨by rfl, ?_⟩) hHeld ?_
      rotate_left
      · (intro w hSw; (try dsimp only at hSw); go_simp) <;> with_reducible rfl
      try simp only [Act.put, List.setIfInBounds_toArray, List.set_cons_zero, List.set_cons_succ]
      refine wpAnyH_done (by kernel_rfl) ?_ _
      have HRow : Hid (Rd x3 x3.heap.size A3 (syRow (row.take k ++ (right ++ row.drop (k + 1))))) := by
        have h := own_rdN HO3.out
        rw [List.append_assoc, ← syRow_append, ← syRow_append] at h
        exact h
      have HLn : Hid (k + right.length + (lr - (k + 1)) = (row.take k ++ (right ++ row.drop (k + 1))).length) := by
        unfold Hid
        rw [List.length_append, List.length_append, HLt.out, HLd.out]; omega
      have hLb : k + right.length + (lr - (k + 1)) ≤ 100 := by omega
      have HB7 := Lib.hid (HBr.out.trans (HB6.out.trans HSa3.out))
      have HD3 := Lib.hid hd3
      clear hsl1 hsl2 hwr hd1 hd2 hd3
      generalize k + right.length + (lr - (k + 1)) = L at HLn hLb HD3 ⊢
      generalize row.take k ++ (right ++ row.drop (k + 1)) = row2 at HRow HLn HRn
      go_wp2_with fail
      go_loopw [111] (fun v wr => ∃ m : Nat, m ≤ L ∧ v = .int .i64 m ∧ Hid (Bl x3 wr)) (fun v _ => L - (intOf v).toNat)
      case atStart => exact ⟨0, Nat.zero_le _, rfl, Bl.refl _⟩
      case round =>
        obtain ⟨m, hm, rfl, HBm⟩ := hrel
        by_cases hml : m < L
        · have hmr : m < row2.length := by have := HLn.out; omega
          obtain ⟨bt, ot, rfl, hbt, ht0, ht1⟩ := (rd_on HRow.out HBm.out).sym hmr
          have hgm : row2[m]? = some row2[m] := List.getElem?_eq_getElem hmr
          have hsn := (HRn.out.sy _ (List.getElem_mem hmr)).1
          have hsm := (HRn.out.sy _ (List.getElem_mem hmr)).2.1
          have HLast := Lib.hid (fun hn hl => row_last HRn.out hgm hn hl)
          have HNext := Lib.hid (fun (y : Gr.Sy) (d : Nat) hn hy hyn hd => row_next HRn.out hgm hn (y := y) hy hyn (d := d) hd)
          have hm0 : (0 : Int) ≤ (m : Int) := by omega
          have hm1 : (m : Int) < (L : Int) := by omega
          clear hgm
          generalize row2[m] = sz at *
          clear hmr
          obtain ⟨zn, zv⟩ := sz
          simp only at ht0 ht1 hsn hsm
          obtain ⟨nw, rfl⟩ : ∃ nw : Nat, zv = (nw : Int) := ⟨zv.toNat, by omega⟩
          clear hsn
          cases zn with
          | false =>
            have HBy := Lib.hid (HBm.out.alloc (.cells #[.bool false, .int .i64 nw] 39))
            go_wp2_with fail
            go_roundw
            case rel => exact ⟨m + 1, by omega, by go_num, HBy.out⟩
            case measure => simp [intOf]; omega
          | true =>
            have hnw : nw < N := by have := hsm rfl; omega
            have HBy := Lib.hid (HBm.out.alloc (.cells #[.bool true, .int .i64 nw] 39))
            have hcu := HU.out _ (HB7.out.trans HBm.out) nw hnw
            have hbu : b4 < wr.heap.size := World.block_lt_of_cell? _ _ hcu
            have HUb := HWt.out nw
            have HLast : Hid (m + 1 = row2.length → ((Fi.numW ⟨t, (N : Int), (S : Int), ps⟩).getD nw 0).testBit 16 = true) := HLast.out rfl
            have HNext : Hid (∀ (y : Gr.Sy) (d : Nat), row2[m + 1]? = some y → y.non = false → y.n = (d : Int) → ((Fi.numW ⟨t, (N : Int), (S : Int), ps⟩).getD nw 0).testBit d = true) := fun y d => HNext.out y d rfl
            generalize (Fi.numW ⟨t, (N : Int), (S : Int), ps⟩).getD nw 0 = xw at *
            have hnw0 : (0 : Int) ≤ (nw : Int) := by omega
            have hnw1 : (nw : Int) < (N : Int) := by omega
            have hwr : IntKind.i64.wrap ((m : Int) + 1) = (m : Int) + 1 := by simp [IntKind.wrap, IntKind.bits, IntKind.signed]; omega
            clear hsm
            by_cases hle : m + 1 = L
            · have hend : bits .and .u32 ((xw : Int) / 2 ^ 16) 1 = 1 := bit_one HUb (HLast.out (by have := HLn.out; omega))
              have hend2 : bits .and .u32 ((xw : Int) / 65536) 1 = 1 := hend
              have hli : (((m : Int) + 1) == (L : Int)) = true := by simp; omega
              have HLe := Lib.hid hle
              clear hle
              go_wp2_with fail
              go_roundw
              case rel => exact ⟨m + 1, by omega, by go_num, HBy.out⟩
              case measure => simp [intOf]; omega
            · have hli : (((m : Int) + 1) == (L : Int)) = false := by simp; omega
              have hmr1 : m + 1 < row2.length := by have := HLn.out; omega
              obtain ⟨bt', ot', e', _, ht2, ht3⟩ := (rd_on HRow.out HBm.out).sym hmr1
              injection e' with e'
              injection e' with e1 e2
              subst e1 e2
              have hgm1 : row2[m + 1]? = some row2[m + 1] := List.getElem?_eq_getElem hmr1
              have hyn := HRn.out.sy _ (List.getElem_mem hmr1)
              have hm10 : (0 : Int) ≤ (m : Int) + 1 := by omega
              have hm11 : (m : Int) + 1 < (L : Int) := by omega
              have HNx := Lib.hid (HNext.out row2[m + 1])
              have HGm := Lib.hid hgm1
              clear hgm1
              generalize row2[m + 1] = sq at *
              obtain ⟨qn, qv⟩ := sq
              simp only at ht2 ht3 hyn
              obtain ⟨d, rfl⟩ : ∃ d : Nat, qv = (d : Int) := ⟨qv.toNat, by omega⟩
              have HLe := Lib.hid hle
              clear hle
              cases qn with
              | true =>
                clear hyn
                go_wp2_with fail
                go_quiet (fail)
                go_wp2_with fail
                go_roundw
                case rel => exact ⟨m + 1, by omega, by go_num, by first | exact HBy.out.drewN _ | exact HBy.out.drew⟩
                case measure => simp [intOf]; omega
              | false =>
                have hd16 : d < 16 := by have := hyn.2.2 rfl; omega
                have hand := bit_one HUb (HNx.out d HGm.out rfl rfl)
                have hand2 : bits .and .u32 ((xw : Int) / 2 ^ min d 32) 1 = 1 := by rw [Nat.min_eq_left (by omega)]; exact hand
                have hd0 : (0 : Int) ≤ (d : Int) := by omega
                clear hyn
                go_wp2_with fail
                go_quiet (fail)
                go_wp2_with fail
                go_roundw
                case rel => exact ⟨m + 1, by omega, by go_num, by first | exact HBy.out.drewN _ | exact HBy.out.drew⟩
                case measure => simp [intOf]; omega
        · go_wp2_with fail
          go_roundw
          case rel => exact ⟨q + 2, d3, L, _, row2, by omega, by go_num, rfl, HLn.out, HD3.out, hLb, rd_on HRow.out HBm.out, HRn.out, HB7.out.trans HBm.out⟩
          case measure => simp [intOf]; omega
    · go_wp2_with fail
      go_ret
      exact ⟨rfl, HBw.out⟩
end Go.Proofs.Ytgmnokmchjeflaa
