/- ChartMeans: each item says what comes. -/
import Derived.Test.YtckckejgocbkkaaChMeansB
import Derived.Test.YtckckejgocbkkaaChMeansR
namespace Go.Proofs.Ytckckejgocbkkaa
open Go.RowKit

set_option maxRecDepth 100000 in
set_option maxHeartbeats 16000000 in
theorem chartMeans_any (t n s : Int) (A : Option Addr) (len c : Nat) (ps : List Gr.Pr) (Al : Option Addr) (ll cl : Nat) (xs : List Int) (W : World) (hlen : len = ps.length) (hmax : len ≤ 9223372036854775807) (hr : PrsC W W.heap.size A ps)
    (hll : ll = xs.length) (hrl : Rd W W.heap.size Al (ins xs)) (hml : ll ≤ 9223372036854775807) :
    Calls Try.prog 5 #[.agg #[.int .i64 t, .int .i64 n, .int .i64 s, .slice A len c], .slice Al ll cl] W fun e w' => e = .returned (.bool true) ∧ Bl W w' := by
  have HB0 : Hid (Bl W (W.alloc (.cells #[.int .i64 t, .int .i64 n, .int .i64 s, .slice A len c] 24))) := (Bl.refl W).alloc _
  have HK0 := Lib.hid (Bk.new W 24 #[.int .i64 t, .int .i64 n, .int .i64 s, .slice A len c])
  have HL := Lib.hid hlen
  have HLL := Lib.hid hll
  have HPc : Hid (∀ w', Bl W w' → PrsC w' w'.heap.size A ps) := fun _ hb => lprs_on hr hb
  have HXc : Hid (∀ w', Bl W w' → Rd w' w'.heap.size Al (ins xs)) := fun _ hb => lrd_on hrl hb
  clear hlen hll hr hrl
  go_enter Try.func5, Try.ntmps5
  go_wp2_with fail
  refine (awake18_any _).mono ?_
  rintro e w1 ⟨rfl, hb1⟩
  have HB1 := Lib.hid (HB0.out.trans hb1)
  have HK1 := Lib.hid (HK0.out.bl hb1)
  clear hb1 HB0 HK0
  have k0 : w1.cell? ⟨W.heap.size, 0, none⟩ = some (.int .i64 t) := HK1.out.cell 0
  have k1 : w1.cell? ⟨W.heap.size, 1, none⟩ = some (.int .i64 n) := HK1.out.cell 1
  have k2 : w1.cell? ⟨W.heap.size, 2, none⟩ = some (.int .i64 s) := HK1.out.cell 2
  have k3 : w1.cell? ⟨W.heap.size, 3, none⟩ = some (.slice A len c) := HK1.out.cell 3
  have kl := HK1.out.lt
  go_wp2_with fail
  refine (large17_any t n s A len c ps Al ll cl w1 w1.heap.size HL.out hmax hml (HPc.out w1 HB1.out).prs (Nat.le_refl _)).mono ?_
  rintro e w2 ⟨rfl, hb2⟩
  have HB2 := Lib.hid (HB1.out.trans hb2)
  have HK2 := Lib.hid (HK1.out.bl hb2)
  clear hb2 HB1 HK1 k0 k1 k2 k3 kl
  cases hl : lg17 ps ll with
  | true =>
    go_wp2_with fail
    go_ret
    exact ⟨rfl, HB2.out⟩
  | false =>
  have hl40 : ll ≤ 8 ∨ 24 < ll := by
    unfold lg17 at hl
    simp only [Bool.or_eq_false_iff, Bool.and_eq_false_iff, decide_eq_false_iff_not] at hl
    omega
  clear hl
  have k0 : w2.cell? ⟨W.heap.size, 0, none⟩ = some (.int .i64 t) := HK2.out.cell 0
  have k1 : w2.cell? ⟨W.heap.size, 1, none⟩ = some (.int .i64 n) := HK2.out.cell 1
  have k2 : w2.cell? ⟨W.heap.size, 2, none⟩ = some (.int .i64 s) := HK2.out.cell 2
  have k3 : w2.cell? ⟨W.heap.size, 3, none⟩ = some (.slice A len c) := HK2.out.cell 3
  have kl := HK2.out.lt
  go_wp2_with fail
  refine (rfit_any t n s A len c ps Al ll cl xs w2 w2.heap.size HL.out hmax (HPc.out w2 HB2.out).prs HLL.out hml (HXc.out w2 HB2.out) (Nat.le_refl _)).mono ?_
  rintro e w3 ⟨rfl, hb3⟩
  have HB3 := Lib.hid (HB2.out.trans hb3)
  have HK3 := Lib.hid (HK2.out.bl hb3)
  clear hb3 HB2 HK2 k0 k1 k2 k3 kl
  cases hf : fitB ⟨t, n, s, ps⟩ xs with
  | false =>
    clear hf
    go_wp2_with fail
    go_ret
    exact ⟨rfl, HB3.out⟩
  | true =>
  have hl8 : ll ≤ 8 := by have h := (fit_good hf).2.2; have := HLL.out; omega
  have HF := Lib.hid hf
  have hok := (fit_good hf).1
  have HOk := Lib.hid hok
  obtain ⟨N, rfl, hN1, hN24⟩ : ∃ N : Nat, n = (N : Int) ∧ 0 < N ∧ N ≤ 24 := ⟨n.toNat, by have h1 := hok.2.2.1; have h2 := hok.2.2.2.1; simp only at h1 h2; omega, by have h1 := hok.2.2.1; have h2 := hok.2.2.2.1; simp only at h1 h2; omega, by have h1 := hok.2.2.1; have h2 := hok.2.2.2.1; simp only at h1 h2; omega⟩
  clear hf hok hl40
  have k0 : w3.cell? ⟨W.heap.size, 0, none⟩ = some (.int .i64 t) := HK3.out.cell 0
  have k1 : w3.cell? ⟨W.heap.size, 1, none⟩ = some (.int .i64 (N : Int)) := HK3.out.cell 1
  have k2 : w3.cell? ⟨W.heap.size, 2, none⟩ = some (.int .i64 s) := HK3.out.cell 2
  have k3 : w3.cell? ⟨W.heap.size, 3, none⟩ = some (.slice A len c) := HK3.out.cell 3
  have kl := HK3.out.lt
  go_wp2_with fail
  refine (spans_any t (N : Int) s A len c ps Al ll cl xs w3 w3.heap.size HL.out ((okB_iff _).2 HOk.out) (HPc.out w3 HB3.out).prs HLL.out (by omega) (HXc.out w3 HB3.out) (Nat.le_refl _)).mono ?_
  intro e w4 hS
  obtain ⟨bo, co, B4, rows, T, he, hrows, htab, hsnd, hcls, hb4⟩ := hS.lit (N := N) (m := ll + 1) rfl (by rw [HLL.out]) (by omega)
  subst he
  have HT4 := Lib.hid htab
  have HSnd := Lib.hid hsnd
  have HCls := Lib.hid hcls
  have HRl := Lib.hid hrows
  have HB4 := Lib.hid (HB3.out.trans hb4)
  have HK4 := Lib.hid (HK3.out.bl hb4)
  clear hS htab hsnd hcls hrows hb4 HB3 HK3 k0 k1 k2 k3 kl
  have k0 : w4.cell? ⟨W.heap.size, 0, none⟩ = some (.int .i64 t) := HK4.out.cell 0
  have k1 : w4.cell? ⟨W.heap.size, 1, none⟩ = some (.int .i64 (N : Int)) := HK4.out.cell 1
  have k2 : w4.cell? ⟨W.heap.size, 2, none⟩ = some (.int .i64 s) := HK4.out.cell 2
  have k3 : w4.cell? ⟨W.heap.size, 3, none⟩ = some (.slice A len c) := HK4.out.cell 3
  have kl := HK4.out.lt
  go_wp2_with fail
  refine (csets_any t (N : Int) s A len c ps Al ll cl xs w4 w4.heap.size HL.out hmax (HPc.out w4 HB4.out) HLL.out hml (HXc.out w4 HB4.out) (Nat.le_refl _)).mono ?_
  rintro e w5 ⟨A1, L, c1, rfl, hc1, hsr, hb5, hy, hn⟩
  have HIs := Lib.hid (hy HF.out)
  have HB5 := Lib.hid (HB4.out.trans hb5)
  have HK5 := Lib.hid (HK4.out.bl hb5)
  have HT5 := Lib.hid (HT4.out.bl_ hb5)
  have HS5 := Lib.hid hsr
  have HLm : Hid (L.length = ll + 1) := by have h1 := HIs.out.1; have h2 := HLL.out; show _ = _; omega
  clear hc1 hsr hb5 hy hn HB4 HK4 HT4 k0 k1 k2 k3 kl
  rw [HLm.out]
  obtain ⟨i0, hi, hz0, hz1, hz2⟩ := info_parts cm_bool_info
  have q1 : (((ll : Int) + 1) != ((ll : Int) + 1)) = false := by simp
  go_wp2_with fail
  go_loopw [42] (fun i wr => ∃ k : Nat, k ≤ ll + 1 ∧ i = .int .i64 (k : Int) ∧ Hid (Bl w5 wr)) (fun i _ => ll + 1 - (intOf i).toNat)
  case atStart => exact ⟨0, Nat.zero_le _, rfl, Bl.refl _⟩
  case round =>
    obtain ⟨k, hk, rfl, HBr⟩ := hrel
    by_cases hlt : k < ll + 1
    · have hlt2 : k < L.length := by have := HLm.out; omega
      have hki : (k : Int) < (ll : Int) + 1 := by omega
      have hk0 : (0 : Int) ≤ (k : Int) := by omega
      obtain ⟨b1, o1, Ak, ck, rfl, hb1, hcs, hck, hrk⟩ := (HS5.out.bl HBr.out).at_ hlt2
      have hl5 := inc_few HOk.out (HIs.out.2 k _ (List.getElem?_eq_getElem hlt2)).1 (HIs.out.2 k _ (List.getElem?_eq_getElem hlt2)).2 (by omega)
      have HInc := Lib.hid (HIs.out.2 k _ (List.getElem?_eq_getElem hlt2)).1
      have HSy := Lib.hid (fun x hx => it_says HOk.out HSnd.out HCls.out (((HIs.out.2 k _ (List.getElem?_eq_getElem hlt2)).2 x).1 hx))
      have HRk := Lib.hid (fun (wx : World) (hb : Bl wr wx) => hrk.bl (Nat.le_refl _) hb)
      clear hrk hck
      generalize L[k] = l at *
      clear hlt2
      generalize hll : l.length = lk at *
      have Hll := Lib.hid hll
      clear hll
      go_wp2_with fail
      clear hb1 hcs
      obtain ⟨wk, hwk⟩ : ∃ wk : World, wk = wr := ⟨_, rfl⟩
      subst hwk
      go_loopw [49] (fun i wr => ∃ j : Nat, j ≤ lk ∧ i = .int .i64 (j : Int) ∧ Hid (Bl wk wr)) (fun i _ => lk - (intOf i).toNat)
      case atStart => exact ⟨0, Nat.zero_le _, rfl, Bl.refl _⟩
      case round =>
        obtain ⟨j, hj, rfl, HBj⟩ := hrel
        by_cases hjl : j < lk
        · have hj1 : j < l.length := by have := Hll.out; omega
          have hji : (j : Int) < (lk : Int) := by omega
          have hj0 : (0 : Int) ≤ (j : Int) := by omega
          obtain ⟨b2, o2, rfl, hb2, x0, x1, x2⟩ := (HRk.out _ HBj.out).item hj1
          have HSay := Lib.hid (HSy.out _ (List.getElem_mem hj1))
          have HNe : Hid (∀ i, (h : i + 1 = j) → l[i]'(by omega) ≠ l[j]) := fun i h => by subst h; exact inc_ne HInc.out hj1
          obtain ⟨wj, hwj⟩ : ∃ wj : World, wj = wr := ⟨_, rfl⟩
          subst hwj
          have HRj := Lib.hid (fun (wx : World) (hb : Bl wj wx) => HRk.out wx (HBj.out.trans hb))
          generalize hx : l[j] = x at *
          obtain ⟨xp, xd, xf⟩ := x
          simp only at x0 x1 x2
          have hxp : xp < len := by have h1 := HSay.out.prod; have h2 := HL.out; simp only at h1; omega
          have hxk : xf ≤ k := HSay.out.frm
          have HBw := Lib.hid (HB5.out.trans (HBr.out.trans HBj.out))
          have hb2w : b2 < wj.heap.size := by have h1 := HBj.out.size; omega
          have HI9 := Lib.hid (Bk.new wj 42 #[.int .i64 (xp : Int), .int .i64 (xd : Int), .int .i64 (xf : Int)])
          have HB9 : Hid (Bl wj (wj.alloc (.cells #[.int .i64 (xp : Int), .int .i64 (xd : Int), .int .i64 (xf : Int)] 42))) := (Bl.refl wj).alloc _
          go_upto_region 15 with fail
          generalize wj.alloc (.cells #[.int .i64 (xp : Int), .int .i64 (xd : Int), .int .i64 (xf : Int)] 42) = w9 at *
          have hbi : b2 < w9.heap.size := Nat.lt_of_lt_of_le hb2w HB9.out.size
          clear x0 x1 x2 hb2w hb2
          generalize wj.heap.size = bi at *
          have HB9w := Lib.hid (HBw.out.trans HB9.out)
          have HB59 := Lib.hid (HBr.out.trans (HBj.out.trans HB9.out))
          have HK9 := Lib.hid (HK5.out.bl HB59.out)
          have hpi : xp < ps.length := by have := HL.out; omega
          obtain ⟨bp, op, Ax, cx, rfl, hbp, hrx, hc0, hc1, hcx, hcm⟩ := (HPc.out w9 HB9w.out).at_ hpi
          obtain ⟨hxd, hat⟩ := HSay.out.dot _ (List.getElem?_eq_getElem hpi)
          simp only at hxd hat
          have HAt := Lib.hid hat
          have HRx := Lib.hid (fun (wx : World) (hb : Bl w9 wx) => hrx.bl (Nat.le_refl _) hb)
          have HC1 := Lib.hid (fun (wx : World) (hb : Bl w9 wx) => (Below.cell hb (p := ⟨bp, op + xp * 2 + 1, none⟩) hbp).trans hc1)
          have HSs : Hid (∀ y ∈ ps[xp].right, y.non = true → 0 ≤ y.n ∧ y.n < (N : Int)) := fun y hy hn => by
            have h1 := (HOk.out.2.2.2.2.2.2.2 _ (List.getElem_mem hpi)).2.2.2 y hy
            exact ⟨h1.1, h1.2.1 hn⟩
          have HRl8 : Hid (ps[xp].right.length ≤ 8) := (HOk.out.2.2.2.2.2.2.2 _ (List.getElem_mem hpi)).2.2.1
          clear hc0 hrx hat HSay
          generalize ps[xp].right = right at *
          generalize hrn : right.length = rn at *
          have HRn := Lib.hid hrn
          clear hrn hpi
          have k3 : w9.cell? ⟨W.heap.size, 3, none⟩ = some (.slice (some ⟨bp, op, none⟩) len c) := HK9.out.cell 3
          have kl := HK9.out.lt
          have y0 : w9.cell? ⟨bi, 0, none⟩ = some (.int .i64 (xp : Int)) := HI9.out.cell 0
          have y1 : w9.cell? ⟨bi, 1, none⟩ = some (.int .i64 (xd : Int)) := HI9.out.cell 1
          have y2 : w9.cell? ⟨bi, 2, none⟩ = some (.int .i64 (xf : Int)) := HI9.out.cell 2
          have yl := HI9.out.lt
          have HJ : Hid (j = 0 ∨ ∃ i zp zd zf : Nat, i + 1 = j ∧ j < lk ∧ w9.cell? ⟨b2, o2 + i * 3, none⟩ = some (.int .i64 (zp : Int)) ∧ w9.cell? ⟨b2, o2 + i * 3 + 1, none⟩ = some (.int .i64 (zd : Int)) ∧ w9.cell? ⟨b2, o2 + i * 3 + 2, none⟩ = some (.int .i64 (zf : Int)) ∧ lk ≤ 13500 ∧ ¬ (zp = xp ∧ zd = xd ∧ zf = xf)) := by
            by_cases hjz : j = 0
            · exact .inl hjz
            · right
              obtain ⟨i, hij⟩ : ∃ i, i + 1 = j := ⟨j - 1, by omega⟩
              obtain ⟨b3, o3, he, hb3, e0, e1, e2⟩ := (HRj.out _ HB9.out).item (i := i) (by omega)
              injection he with he
              injection he with q5 q6 _
              subst q5 q6
              have hne := HNe.out i hij
              generalize l[i] = z at *
              obtain ⟨zp, zd, zf⟩ := z
              simp only at e0 e1 e2
              exact ⟨i, zp, zd, zf, hij, hjl, e0, e1, e2, by omega, fun h => hne (by rw [h.1, h.2.1, h.2.2])⟩
          refine means15_any W.heap.size bi b2 o2 lk ck k j xp xd xf len c rn bp op cx Ax w9 k3 y0 y1 y2 hc1 hxp hxd hxk HJ.out _ _ _ _ _ _ _ _ _ _ _ _ _ _ _ _ _ _ _ _ _ _ _ _ _ _ _ _ _ _ _ _ _ _ _ _ _ _ _ _ _ _ _ _ _ _ _ _ _ _ _ _ _ _ _ _ _ _ _ _ _ _ _ _ _ _ _ _ _ _ _ _ _ _ _ _ _ _ _ _ _ _ _ _ _ _ _ _ _ _ _ _ _ _ _ _ _ _ _ _ _ _ _ _ _ _ _ _ _ _ _ _ _ _ _ _ _ _ _ _ _ _ _ _ _ _ _ _ _ _ _ _ _ _ _ _ _ _ _ _ _ _ _ _ _ _ _ _ _ _ _ _ _ _ _ _ _ _ _ _ _ _ _ _ _ _ _ _ _ _ _ _ _ _ _ _ _ _ _ _ _ _ _ _ _ _ _ _ _ _ _ _ _ _ _ _ _ ?_
          · intro v54 v55 v56 v57 v58 v59 v60 v61 v62 v63 v64 v65 v66 v67 v68 v69 v70 v71 v72 v73 v74 v75 v76 v77 v78 v79 v80 v81 v82 v83 v84 v85 v86 v87 v88 v89 v90 v91 v92 v93 v94 v95 v96 v97 v98 v99 v100 v101 v102 v103 v104 v105 wc hbc
            have HBc := Lib.hid hbc
            clear hbc HJ
            clear k3 kl y0 y1 y2 yl hc1
            have HBwc := Lib.hid (HB9w.out.trans HBc.out)
            have HB5c := Lib.hid (HB59.out.trans HBc.out)
            have HIc := Lib.hid (HI9.out.bl HBc.out)
            have HKc := Lib.hid (HK9.out.bl HBc.out)
            have hxf0 : (0 : Int) ≤ (xf : Int) := by omega
            have hxf1 : (xf : Int) < (ll : Int) + 1 := by omega
            go_wp2_with (refine wpList_make_full _ rfl (.tmp 109) (.tmp 109) 46 rfl wc.heap.size 4 i0 (.bool false) 1 Try.underlying46 hi hz0 hz1 .i64 .i64 ((ll : Int) + 1) ((ll : Int) + 1) (ll + 1) rfl rfl (by omega) (by omega) (by rw [hz2]; omega) (by simp only [maxLen]; omega) (Nat.le_refl _) ?_; intro wh hown1 hg1; rw [← bls_false] at hown1; have HO1 := Lib.hid hown1; have HBh : Hid (Bl wc wh) := (Bl.refl wc).grown hg1 (by simp); have kf := hown1.frozenAt xf; have kc := (hown1.cellAt xf (by omega)).trans (bls_at _ (show xf < ll + 1 by omega)); have klt := (hown1.lt _ rfl).2; have HIh := Lib.hid (HIc.out.bl HBh.out); have y2 : wh.cell? ⟨bi, 2, none⟩ = some (.int .i64 (xf : Int)) := HIh.out.cell 2; have yl := HIh.out.lt; clear hown1 hg1)
            have HO2 := Lib.hid (HO1.out.stored xf (.bool true)).1
            have HB2 : Hid (Bl wc (wh.setCell ⟨wc.heap.size, xf, none⟩ (.bool true))) := Bl.fr HBh.out ((Fr.refl (fun k => k = wc.heap.size) wh).own _ _) (fun i hi e => by omega)
            have HA0 : Hid (RdP (wh.setCell ⟨wc.heap.size, xf, none⟩ (.bool true)) (fun b => b < (wh.setCell ⟨wc.heap.size, xf, none⟩ (.bool true)).heap.size) (some ⟨wc.heap.size, 0, none⟩) (bls (ll + 1) (atC T xs xf (right.take 0)))) := by
              have h := HO2.out
              rw [bls_set] at h
              exact RdP.of_own h fun b h1 h2 => h2
            clear HO1 HO2 HBh HIh kf kc klt y2 yl
            generalize wh.setCell ⟨wc.heap.size, xf, none⟩ (.bool true) = w2 at *
            have HI2 := Lib.hid (HIc.out.bl HB2.out)
            have HK2 := Lib.hid (HKc.out.bl HB2.out)
            have k3 : w2.cell? ⟨W.heap.size, 3, none⟩ = some (.slice (some ⟨bp, op, none⟩) len c) := HK2.out.cell 3
            have kl := HK2.out.lt
            have y0 : w2.cell? ⟨bi, 0, none⟩ = some (.int .i64 (xp : Int)) := HI2.out.cell 0
            have y1 : w2.cell? ⟨bi, 1, none⟩ = some (.int .i64 (xd : Int)) := HI2.out.cell 1
            have yl := HI2.out.lt
            have hc1 := HC1.out w2 (HBc.out.trans HB2.out)
            have hbp2 : bp < w2.heap.size := by have h1 := HBc.out.size; have h2 := HB2.out.size; omega
            have hsl := fun (wx : World) => run_slice_head (P := Try.prog) (t := 43) (e := 48) (size := 2) Try.underlying43 cm_int_size Ax rn cx xd (xd : Int) rfl (by omega) wx
            have i5 : (0 : Int) ≤ (xd : Int) := by omega
            have i6 : (xd : Int) ≤ (cx : Int) := by omega
            go_wp2_with fail
            go_quiet (fail)
            go_upto_block 4 with fail
            clear k3 kl y0 y1 yl hc1 hbp2 hsl
            refine means4_any bo N co B4 rows T Al ll cl xs Ax xd cx xf wc.heap.size (ll + 1) right _ (fun wx hb => HT5.out.bl_ (HB5c.out.trans (HB2.out.trans (Bl.undrewN hb)))) HRl.out (fun wx hb => HXc.out wx (HBwc.out.trans (HB2.out.trans (Bl.undrewN hb)))) HLL.out hl8 (fun wx hb => (HRx.out wx (HBc.out.trans (HB2.out.trans (Bl.undrewN hb)))).more (Nat.le_trans HBc.out.size HB2.out.size)) (by rw [HRn.out]; exact hxd) (by rw [HRn.out]; exact HRl8.out) HSs.out (HA0.out.keep (fun b hb => bl_block ((Bl.refl w2).drewN _) hb)) _ _ _ _ _ _ _ _ _ _ _ _ _ _ _ _ _ _ _ _ _ _ _ _ _ _ _ _ _ _ _ _ _ _ _ _ _ _ _ _ _ _ _ _ _ _ _ _ _ _ _ _ _ _ _ _ _ _ _ _ _ _ _ _ _ _ _ _ _ _ _ _ _ _ _ _ _ _ _ _ _ _ _ _ _ _ _ _ _ _ _ _ _ _ _ _ _ _ _ _ _ _ _ _ _ _ _ _ _ _ _ _ _ _ _ _ _ _ _ _ _ _ _ _ _ _ _ _ _ _ _ _ _ _ _ _ _ _ _ _ _ _ _ _ _ _ _ _ _ _ _ _ _ _ _ _ _ _ _ _ _ _ _ _ _ _ _ _ _ _ _ _ _ _ _ _ _ _ _ _ _ _ _ _ _ _ _ _ _ _ _ _ _ _ _ _ ?_
            intro y13 y14 y15 y16 y127 y128 y129 y130 y131 y132 y133 y134 y135 y136 y137 y138 y139 y140 y141 y142 y143 y144 y145 y146 y147 y148 y149 y150 y151 y152 y153 y154 y155 y156 y157 y158 y159 y160 y161 y162 y163 y164 y165 y166 y167 y168 y169 y170 y171 y172 y173 y174 y175 y176 y177 y178 y179 y180 y181 y182 y183 y184 y185 y186 y187 y188 y189 y190 y191 y192 g cg w4 hrd hb4
            obtain ⟨kz, kzl⟩ := hrd.bls0 (show k < ll + 1 by omega)
            have kz2 : w4.cell? ⟨g, k, none⟩ = some (.bool true) := by
              have h := HAt.out
              rw [h] at kz
              exact kz
            have HBd : Hid (Bl wc w4) := HB2.out.trans (Bl.undrewN hb4)
            clear kz hrd hb4
            go_wp2_with fail
            go_roundw
            case rel => exact ⟨j + 1, by omega, by go_num, HBj.out.trans (HB9.out.trans (HBc.out.trans HBd.out))⟩
            case measure => simp [intOf]; omega
        · have hji : ¬ (j : Int) < (lk : Int) := by omega
          go_wp2_with fail
          go_roundw
          case rel => exact ⟨k + 1, by omega, by go_num, HBr.out.trans HBj.out⟩
          case measure => simp [intOf]; omega
    · have hki : ¬ (k : Int) < (ll : Int) + 1 := by omega
      go_wp2_with fail
      go_ret
      exact ⟨rfl, HB5.out.trans HBr.out⟩
end Go.Proofs.Ytckckejgocbkkaa
