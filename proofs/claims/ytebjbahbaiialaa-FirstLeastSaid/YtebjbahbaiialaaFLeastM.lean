/- FirstLeast's contract: the sets are closed, and just so much as must be is in them. -/
import Derived.Test.YtebjbahbaiialaaFAwake
import Derived.Test.YtebjbahbaiialaaFLeast
import Derived.Test.YtebjbahbaiialaaKLarge
import Derived.Test.YtebjbahbaiialaaGRRight
import Derived.BigQuiet
namespace Go.Proofs.Ytebjbahbaiialaa
open Go.RowKit

theorem ok_right {t n s : Int} {ps : List Gr.Pr} (h : okB ⟨t, n, s, ps⟩ = true) {k : Nat} (hk : k < ps.length) : ps[k].right.all (okSyB t n) = true := by
  unfold okB at h
  rw [Bool.and_eq_true, List.all_eq_true] at h
  have h1 := h.2 _ (List.getElem_mem hk)
  unfold okPrB at h1
  rw [Bool.and_eq_true] at h1
  exact h1.2
/-- Numbers, a row of the call's own. -/
structure LRel (w0 : World) (N gf cf : Nat) (F : List Nat) (w : World) : Prop where
  own : w.ownsRow w0.heap.size 28 1 (.slice (some ⟨gf, 0, none⟩) N cf) N (us F)
  len_ : F.length = N
  b : Bl w0 w
section
variable {w0 w w' : World} {N gf cf : Nat} {F F' : List Nat}
theorem LRel.bl_ (h : LRel w0 N gf cf F w) (hb : Bl w w') : LRel w0 N gf cf F w' := ⟨own_bl h.own hb, h.len_, h.b.trans hb⟩
theorem LRel.is (h : LRel w0 N gf cf F w) (e : F' = F) : LRel w0 N gf cf F' w := by subst e; exact h
theorem LRel.cell (h : LRel w0 N gf cf F w) {m : Nat} (hm : m < N) : w.cell? ⟨gf, m, none⟩ = some (.int .u32 (F.getD m 0 : Int)) :=
  (h.own.cellAt m (by omega)).trans (us_at F m (by rw [h.len_]; exact hm))
theorem LRel.free (h : LRel w0 N gf cf F w) (j : Nat) : w.frozen? ⟨gf, j, none⟩ = false := h.own.frozenAt j
theorem LRel.glt (h : LRel w0 N gf cf F w) : gf < w.heap.size := (h.own.lt gf rfl).2
theorem LRel.put (h : LRel w0 N gf cf F w) {m v : Nat} {x : Int} (hx : x = (v : Int)) : LRel w0 N gf cf (F.set m v) (w.setCell ⟨gf, m, none⟩ (.int .u32 x)) := by
  subst hx
  have h1 := (h.own.stored m (.int .u32 (v : Int))).1
  have hlow := (h.own.lt gf rfl).1
  exact ⟨by rw [us_set]; exact h1, by rw [List.length_set]; exact h.len_, h.b.fr ((Fr.refl (fun k => k = gf) w).own _ _) fun k hk e => by omega⟩
end

set_option maxRecDepth 100000 in
set_option maxHeartbeats 8000000 in
theorem firstLeast_any (t n s : Int) (A : Option Addr) (len c : Nat) (ps : List Gr.Pr) (W : World)
    (hlen : len = ps.length) (hmax : len ≤ 9223372036854775807) (hr : Prs W W.heap.size A ps) :
    Calls Try.prog 5 #[.agg #[.int .i64 t, .int .i64 n, .int .i64 s, .slice A len c]] W fun e w' => e = .returned (.bool true) ∧ Bl W w' := by
  obtain ⟨i0, hi, hz0, hz1, hz2⟩ := info_parts u32_info
  have HL := Lib.hid hlen; clear hlen
  have HP : Hid (∀ w', Bl W w' → Prs w' w'.heap.size A ps) := fun _ hb => (hr.bl (Nat.le_refl _) hb).more hb.size
  clear hr
  have HB0 : Hid (Bl W (W.alloc (.cells #[.int .i64 t, .int .i64 n, .int .i64 s, .slice A len c] 24))) := (Bl.refl W).alloc _
  have HK0 := Lib.hid (Bk.new W 24 #[.int .i64 t, .int .i64 n, .int .i64 s, .slice A len c])
  go_enter Try.func5, Try.ntmps5
  go_wp2_with fail
  refine (awake11_any _).mono ?_
  rintro e w1 ⟨rfl, hb1⟩
  have HB1 := Lib.hid (HB0.out.trans hb1)
  have HK1 := Lib.hid (HK0.out.bl hb1)
  clear hb1 HB0 HK0
  have k0 : w1.cell? ⟨W.heap.size, 0, none⟩ = some (.int .i64 t) := HK1.out.cell 0
  have k1 : w1.cell? ⟨W.heap.size, 1, none⟩ = some (.int .i64 n) := HK1.out.cell 1
  have k2 : w1.cell? ⟨W.heap.size, 2, none⟩ = some (.int .i64 s) := HK1.out.cell 2
  have k3 : w1.cell? ⟨W.heap.size, 3, none⟩ = some (.slice A len c) := HK1.out.cell 3
  go_wp2_with fail
  refine (large9_any t n s A len c ps _ w1.heap.size HL.out hmax (HP.out _ HB1.out) (Nat.le_refl _)).mono ?_
  rintro e w2 ⟨rfl, hb2⟩
  have HB2 := Lib.hid (HB1.out.trans hb2)
  have HK2 := Lib.hid (HK1.out.bl hb2)
  clear hb2 k0 k1 k2 k3 HB1 HK1
  cases hlg : lgB ps with
  | true =>
    go_wp2_with fail
    go_ret
    exact ⟨rfl, HB2.out⟩
  | false =>
  clear hlg
  have k0 : w2.cell? ⟨W.heap.size, 0, none⟩ = some (.int .i64 t) := HK2.out.cell 0
  have k1 : w2.cell? ⟨W.heap.size, 1, none⟩ = some (.int .i64 n) := HK2.out.cell 1
  have k2 : w2.cell? ⟨W.heap.size, 2, none⟩ = some (.int .i64 s) := HK2.out.cell 2
  have k3 : w2.cell? ⟨W.heap.size, 3, none⟩ = some (.slice A len c) := HK2.out.cell 3
  go_wp2_with fail
  refine (rright_any t n s A len c ps _ w2.heap.size HL.out hmax (HP.out _ HB2.out) (Nat.le_refl _)).mono ?_
  rintro e w3 ⟨rfl, hb3⟩
  have HB3 := Lib.hid (HB2.out.trans hb3)
  have HK3 := Lib.hid (HK2.out.bl hb3)
  clear hb3 k0 k1 k2 k3 HB2 HK2
  cases hok : okB ⟨t, n, s, ps⟩ with
  | false =>
    go_wp2_with fail
    go_ret
    exact ⟨rfl, HB3.out⟩
  | true =>
  obtain ⟨n1, n2, n3⟩ := ok_nons hok
  obtain ⟨t0, ht16, _⟩ := (okB_iff _).1 hok
  have t0 : 0 ≤ t := t0
  have ht16 : t ≤ 16 := ht16
  obtain ⟨N, rfl⟩ : ∃ N : Nat, n = (N : Int) := ⟨n.toNat, by omega⟩
  obtain ⟨T, rfl⟩ : ∃ T : Nat, t = (T : Int) := ⟨t.toNat, by omega⟩
  have HOK := Lib.hid hok
  have HOk : Hid (Gr.Ok ⟨(T : Int), (N : Int), s, ps⟩) := (okB_iff _).1 hok
  have HFi := Lib.hid (firstsOf_ok hok)
  have hlx60 : len ≤ 60 := by have := HL.out; omega
  clear hok
  have k0 : w3.cell? ⟨W.heap.size, 0, none⟩ = some (.int .i64 (T : Int)) := HK3.out.cell 0
  have k1 : w3.cell? ⟨W.heap.size, 1, none⟩ = some (.int .i64 (N : Int)) := HK3.out.cell 1
  have k2 : w3.cell? ⟨W.heap.size, 2, none⟩ = some (.int .i64 s) := HK3.out.cell 2
  have k3 : w3.cell? ⟨W.heap.size, 3, none⟩ = some (.slice A len c) := HK3.out.cell 3
  go_wp2_with fail
  refine (first_any (T : Int) (N : Int) s A len c ps _ w3.heap.size HL.out hmax (HP.out _ HB3.out) (Nat.le_refl _)).mono ?_
  intro e w4 h4
  obtain ⟨A4, c4, he4, hr4, hb4⟩ := h4.lit (k := N) HFi.out (Fi.numR_len _)
  subst he4
  have HN4 := Lib.hid hr4
  have HB4 := Lib.hid (HB3.out.trans hb4)
  have HK4 := Lib.hid (HK3.out.bl hb4)
  clear h4 hr4 hb4 k0 k1 k2 k3 HB3 HK3
  have k1 : w4.cell? ⟨W.heap.size, 1, none⟩ = some (.int .i64 (N : Int)) := HK4.out.cell 1
  have k3 : w4.cell? ⟨W.heap.size, 3, none⟩ = some (.slice A len c) := HK4.out.cell 3
  have klt : W.heap.size < w4.heap.size := HK4.out.lt
  go_wp2_with (refine wpList_make_full _ rfl (.tmp 29) (.tmp 29) 32 rfl w4.heap.size 28 i0 (.int .u32 0) 1 Try.underlying32 hi hz0 hz1 .i64 .i64 (N : Int) (N : Int) N rfl rfl rfl rfl (by rw [hz2]; omega) (by simp only [maxLen]; omega) (Nat.le_refl _) ?_; intro w5 hown5 hg5; have HR5 : Hid (LRel w4 N w4.heap.size N (Fi.allTo ⟨(T : Int), (N : Int), s, ps⟩ 0) w5) := ⟨by (rw [Fi.allTo_zero, us_zeros]; exact hown5), Fi.allTo_len _ 0, (Bl.refl w4).grown hg5 (by simp)⟩; have HK5 := Lib.hid (HK4.out.bl HR5.out.b); have k3 : w5.cell? ⟨W.heap.size, 3, none⟩ = some (.slice A len c) := HK5.out.cell 3; have klt5 : W.heap.size < w5.heap.size := HK5.out.lt; clear hown5 hg5)
  clear k1 k3 klt
  go_loopw [34] (fun v wr => ∃ k : Nat, k ≤ len ∧ v = .int .i64 k ∧ Hid (LRel w4 N w4.heap.size N (Fi.allTo ⟨(T : Int), (N : Int), s, ps⟩ k) wr)) (fun v _ => len - (intOf v).toNat)
  case atStart => exact ⟨0, Nat.zero_le _, rfl, HR5.out⟩
  case round =>
    obtain ⟨k, hk, rfl, HR⟩ := hrel
    have hbr := HR.out.b
    have HKr := Lib.hid (HK4.out.bl hbr)
    have HBr := Lib.hid (HB4.out.trans hbr)
    by_cases hlt : k < len
    · have hj : k < ps.length := by have := HL.out; omega
      obtain ⟨b, off, Ax, cx, rfl, hbB, hrx, hc0, hc1⟩ := (HP.out wr HBr.out).at_ hj
      have hmem : ps[k] ∈ (⟨(T : Int), (N : Int), s, ps⟩ : Gr.Gm).prods := List.getElem_mem hj
      have hlm : ps[k].left.toNat < N := (Fi.ok_nums HOk.out hmem).1
      obtain ⟨⟨o1, o2⟩, o3, o4⟩ := ok_syms HOK.out hj
      have HSuc := Lib.hid (Fi.allTo_succ ⟨(T : Int), (N : Int), s, ps⟩ (k := k) (p := ps[k]) (List.getElem?_eq_getElem hj))
      have HNum : Hid (ofNum ⟨(T : Int), (N : Int), s, ps⟩ ps[k].right = Fi.ofN (Fi.numR ⟨(T : Int), (N : Int), s, ps⟩) (Fi.nulls ⟨(T : Int), (N : Int), s, ps⟩) ps[k].right) := ofNum_yes ((mayOf_is HOK.out).trans (ok_right HOK.out hj))
      have HLo : Hid (Fi.ofN (Fi.numR ⟨(T : Int), (N : Int), s, ps⟩) (Fi.nulls ⟨(T : Int), (N : Int), s, ps⟩) ps[k].right < 4294967296) := Fi.ofN_lt (Fi.numR_lt _) fun x hx e => ((Fi.syOk_prod HOk.out hmem) x hx).2.2 e
      have HLa := Lib.hid (Fi.allTo_lt HOk.out (k := k) (by show k ≤ ps.length; omega) ps[k].left.toNat)
      have hme : ps[k].left = ((ps[k].left.toNat : Nat) : Int) := by omega
      rw [hme] at hc0
      have HRX := Lib.hid hrx
      have hpl : ps[k].right.length ≤ 8 := o3
      have HCell := Lib.hid (fun (w' : World) (h : LRel w4 N w4.heap.size N (Fi.allTo ⟨(T : Int), (N : Int), s, ps⟩ k) w') => h.cell hlm)
      clear hrx o1 o2 o3 o4 hmem hme
      generalize ps[k].left.toNat = m at *
      generalize ps[k].right = right at *
      generalize Fi.ofN (Fi.numR ⟨(T : Int), (N : Int), s, ps⟩) (Fi.nulls ⟨(T : Int), (N : Int), s, ps⟩) right = v at *
      have HOr := Lib.hid (or_nat _ v HLa.out HLo.out)
      have HPut := Lib.hid (fun (w' : World) (h : LRel w4 N w4.heap.size N (Fi.allTo ⟨(T : Int), (N : Int), s, ps⟩ k) w') => (h.put (m := m) HOr.out).is HSuc.out)
      generalize (Fi.allTo ⟨(T : Int), (N : Int), s, ps⟩ k).getD m 0 = a at *
      have k0 : wr.cell? ⟨W.heap.size, 0, none⟩ = some (.int .i64 (T : Int)) := HKr.out.cell 0
      have k1 : wr.cell? ⟨W.heap.size, 1, none⟩ = some (.int .i64 (N : Int)) := HKr.out.cell 1
      have k2 : wr.cell? ⟨W.heap.size, 2, none⟩ = some (.int .i64 s) := HKr.out.cell 2
      have k3 : wr.cell? ⟨W.heap.size, 3, none⟩ = some (.slice (some ⟨b, off, none⟩) len c) := HKr.out.cell 3
      have kltr : W.heap.size < wr.heap.size := HKr.out.lt
      have HAl : Hid (Bl wr (wr.alloc (.cells #[.int .i64 m, .slice Ax right.length cx] 53))) := (Bl.refl wr).alloc _
      have HPb := Lib.hid (Bk.new wr 53 #[.int .i64 m, .slice Ax right.length cx])
      clear hbr hj
      go_wp2_with fail
      refine (fof_any (T : Int) (N : Int) s (some ⟨b, off, none⟩) len c ps Ax right.length cx right _ _ HL.out hmax (HP.out _ (HBr.out.trans HAl.out)) rfl (by omega) (rd_on HRX.out HAl.out) (Nat.le_refl _)).mono ?_
      rw [HNum.out]
      rintro e w6 ⟨rfl, hb6⟩
      have HR6 := Lib.hid (HR.out.bl_ (HAl.out.trans hb6))
      have HP6 := Lib.hid (HPb.out.bl hb6)
      clear hb6 k0 k1 k2 k3 kltr hc0 hc1
      have kp : w6.cell? ⟨wr.heap.size, 0, none⟩ = some (.int .i64 m) := HP6.out.cell 0
      have kc := HCell.out _ HR6.out
      have kf := HR6.out.free m
      have kg : w4.heap.size < w6.heap.size := HR6.out.glt
      have kplt : wr.heap.size < w6.heap.size := HP6.out.lt
      have HX := Lib.hid (HPut.out _ HR6.out)
      have hm0 : (0 : Int) ≤ (m : Int) := by omega
      have hm1 : (m : Int) < (N : Int) := by omega
      go_wp2_with fail
      go_roundw
      case rel => exact ⟨k + 1, by omega, by go_num, HX.out⟩
      case measure => simp [intOf]; omega
    · have hkl : k = len := by omega
      obtain ⟨w6, rfl⟩ : ∃ w6 : World, w6 = wr := ⟨_, rfl⟩
      have k1 : w6.cell? ⟨W.heap.size, 1, none⟩ = some (.int .i64 (N : Int)) := HKr.out.cell 1
      have kltr : W.heap.size < w6.heap.size := HKr.out.lt
      have HAll : Hid (∀ n, n < N → (Fi.allTo ⟨(T : Int), (N : Int), s, ps⟩ k).getD n 0 = (Fi.numR ⟨(T : Int), (N : Int), s, ps⟩).getD n 0) := fun n hn => by
        rw [show k = (⟨(T : Int), (N : Int), s, ps⟩ : Gr.Gm).prods.length by have := HL.out; show k = ps.length; omega]
        exact Fi.allTo_all HOk.out hn
      clear hbr
      have HKl := Lib.hid hkl
      have hlk : ¬ ((k : Int) < (len : Int)) := by omega
      clear hkl hlt hk
      go_wp2_with fail
      clear k1 kltr
      go_loopw [56] (fun v wr => ∃ j : Nat, j ≤ N ∧ v = .int .i64 j ∧ Hid (Bl w6 wr)) (fun v _ => N - (intOf v).toNat)
      case atStart => exact ⟨0, Nat.zero_le _, rfl, Bl.refl _⟩
      case round =>
        obtain ⟨j, hj, rfl, HBj⟩ := hrel
        have HKj := Lib.hid (HKr.out.bl HBj.out)
        have HBjw := Lib.hid (HBr.out.trans HBj.out)
        by_cases hjl : j < N
        · have HMay : Hid (mayOf ⟨(T : Int), (N : Int), s, ps⟩ [⟨true, (j : Int)⟩] = true) := by
            show mayOf _ _ = true
            rw [mayOf_is HOK.out]
            show (okSyB (T : Int) (N : Int) ⟨true, (j : Int)⟩ && true) = true
            rw [Bool.and_true]
            exact (belowB_iff _ _).2 ⟨by show (0 : Int) ≤ (j : Int); omega, by show (j : Int) < (N : Int); omega⟩
          have HNum : Hid (ofNum ⟨(T : Int), (N : Int), s, ps⟩ [⟨true, (j : Int)⟩] = (Fi.numR ⟨(T : Int), (N : Int), s, ps⟩).getD j 0) := (ofNum_yes HMay.out).trans (Fi.ofN_one j)
          have HTm : Hid ((Fi.numR ⟨(T : Int), (N : Int), s, ps⟩).getD j 0 < 2 ^ T) := by
            have h := Fi.numR_terms HOk.out (n := j) hjl
            exact h
          have hjn : j < (Fi.numR ⟨(T : Int), (N : Int), s, ps⟩).length := by rw [Fi.numR_len]; exact hjl
          obtain ⟨b4, o4, rfl, hb4, hc4⟩ := HN4.out.u32 hjn
          have hca := HR.out.cell hjl
          rw [HAll.out j hjl] at hca
          have HFin : Hid (∀ w', Bl wr w' → w'.cell? ⟨w4.heap.size, j, none⟩ = some (.int .u32 ((Fi.numR ⟨(T : Int), (N : Int), s, ps⟩).getD j 0 : Int)) ∧ w'.cell? ⟨b4, o4 + j, none⟩ = some (.int .u32 ((Fi.numR ⟨(T : Int), (N : Int), s, ps⟩).getD j 0 : Int)) ∧ w4.heap.size < w'.heap.size ∧ b4 < w'.heap.size) := fun w' hb => by
            have h1 := HBj.out.trans hb
            have hg := HR.out.glt
            have h2 := HR.out.b.trans h1
            exact ⟨(Below.cell h1 (p := ⟨w4.heap.size, j, none⟩) hg).trans hca, (Below.cell h2 (p := ⟨b4, o4 + j, none⟩) hb4).trans hc4, Nat.lt_of_lt_of_le hg h1.size, Nat.lt_of_lt_of_le hb4 h2.size⟩
          have k0 : wr.cell? ⟨W.heap.size, 0, none⟩ = some (.int .i64 (T : Int)) := HKj.out.cell 0
          have k1 : wr.cell? ⟨W.heap.size, 1, none⟩ = some (.int .i64 (N : Int)) := HKj.out.cell 1
          have k2 : wr.cell? ⟨W.heap.size, 2, none⟩ = some (.int .i64 s) := HKj.out.cell 2
          have k3 : wr.cell? ⟨W.heap.size, 3, none⟩ = some (.slice A len c) := HKj.out.cell 3
          have kltj : W.heap.size < wr.heap.size := HKj.out.lt
          have HAl : Hid (Bl wr (wr.alloc (.cells #[.bool true, .int .i64 j] 55))) := (Bl.refl wr).alloc _
          have HLs : Hid (Rd (wr.alloc (.cells #[.bool true, .int .i64 j] 55)) (wr.alloc (.cells #[.bool true, .int .i64 j] 55)).heap.size (some ⟨wr.heap.size, 0, none⟩) (syRow [⟨true, (j : Int)⟩])) := rd_lit _ _ _ _ _ _ rfl (by rw [World.size_alloc]; omega) rfl
          clear hca hc4 hb4 hjn
          generalize (Fi.numR ⟨(T : Int), (N : Int), s, ps⟩).getD j 0 = x at *
          go_wp2_with fail
          refine (fof_any (T : Int) (N : Int) s A len c ps (some ⟨wr.heap.size, 0, none⟩) 1 1 [⟨true, (j : Int)⟩] _ _ HL.out hmax (HP.out _ (HBjw.out.trans HAl.out)) rfl (by decide) HLs.out (Nat.le_refl _)).mono ?_
          rw [HNum.out]
          rintro e w7 ⟨rfl, hb7⟩
          have HB7 := Lib.hid (HAl.out.trans hb7)
          clear hb7 k0 k1 k2 k3 kltj
          have HK7 := Lib.hid (HKj.out.bl HB7.out)
          obtain ⟨c1, c2, c3, c4'⟩ := HFin.out w7 HB7.out
          have k0 : w7.cell? ⟨W.heap.size, 0, none⟩ = some (.int .i64 (T : Int)) := HK7.out.cell 0
          have kltj : W.heap.size < w7.heap.size := HK7.out.lt
          have hj0 : (0 : Int) ≤ (j : Int) := by omega
          have hj1 : (j : Int) < (N : Int) := by omega
          have hT0 : (0 : Int) ≤ (T : Int) := by omega
          have hsh : (x : Int) / 2 ^ T = 0 := Int.ediv_eq_zero_of_lt (by omega) (by have h := HTm.out; have h2 := Int.ofNat_lt.2 h; rw [Int.natCast_pow] at h2; exact h2)
          have hsh2 : (x : Int) / 2 ^ min T 32 = 0 := by rw [Nat.min_eq_left (by omega)]; exact hsh
          go_wp2_with fail
          go_quiet (fail)
          go_wp2_with fail
          go_roundw
          case rel => exact ⟨j + 1, by omega, by go_num, by first | exact (HBj.out.trans HB7.out).drewN _ | exact (HBj.out.trans HB7.out).drew⟩
          case measure => simp [intOf]; omega
        · go_wp2_with fail
          go_ret
          exact ⟨rfl, HBjw.out⟩
end Go.Proofs.Ytebjbahbaiialaa
