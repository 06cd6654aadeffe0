/- The reference's Rows. -/
import Derived.Test.YthfhnjoeippenaaPlainS
import Derived.Test.YthfhnjoeippenaaSpWild
import Derived.Test.YthfhnjoeippenaaSpansS
namespace Go.Proofs.Ythfhnjoeippenaa
open Go.RowKit

/-- What the reference's Rows leaves. -/
def RRPost (g : Gr.Gm) (xs : List Int) (w : World) (e : Ending) (w' : World) : Prop :=
  (fitB g xs = true → ∃ A c, e = .returned (.slice A (xs.length + 1) c) ∧ Rd w' w'.heap.size A (nus (25 * (xs.length + 1)) (allN g xs))) ∧ (fitB g xs = false → e = .returned (.slice none 0 0)) ∧ Bl w w'
theorem rrow_size : (Try.prog.info? 50).map (·.size) = some 25 := by kernel_rfl
theorem own_empty25 (w : World) (base : Nat) (e : TypeId) (h : base ≤ w.heap.size) : (w.alloc (.cells #[] e)).ownsRow base e 25 (.slice (some ⟨w.heap.size, 0, none⟩) 0 0) 0 [] :=
  World.ownsRow_lit (base := base) (e := e) (size := 25) w #[] 0 h (by simp [maxLen]) rfl
theorem Wn.of_rc {w : World} {t g : Nat} {f : Nat → Nat} (h : Bk w g t (rc f)) : Wn t w g 25 f := ⟨rc f, h, by rw [rc_size]; exact Nat.le_refl _, fun i hi => rc_at f hi⟩
theorem nus_allN (g : Gr.Gm) (xs : List Int) (a : Nat) {F : Nat → Nat} (h : ∀ i, i < 25 → F i = Sp.rowN g (xs.drop a) i) : nus (25 * (a + 1)) (allN g xs) = nus (25 * a) (allN g xs) ++ (rc F).toList := by
  have e1 : (rc F).toList = nus 25 F := rfl
  rw [e1, nus_append, show 25 * a + 25 = 25 * (a + 1) by omega]
  refine nus_congr fun i hi => ?_
  split
  · rfl
  · rw [h _ (by omega), ← allN_at g xs (show i - 25 * a < 25 by omega), show 25 * a + (i - 25 * a) = i by omega]
theorem nat_sum32 {x y : Nat} (h : x + y < 4294967296) : ((x : Int) + (y : Int)) % 4294967296 = ((x + y : Nat) : Int) := by
  rw [Int.emod_eq_of_lt (by omega) (by omega)]; omega
theorem nat_two32 {y : Nat} (h : 2 * y < 4294967296) : (2 * (y : Int)) % 4294967296 = ((2 * y : Nat) : Int) := by
  rw [Int.emod_eq_of_lt (by omega) (by omega)]; omega

set_option maxRecDepth 100000 in
set_option maxHeartbeats 8000000 in
theorem rrows_any (t n s : Int) (A : Option Addr) (len c : Nat) (ps : List Gr.Pr) (Aw : Option Addr) (lw cw : Nat) (xs : List Int) (w : World) (B : Nat) (hlen : len = ps.length) (hmax : len ≤ 9223372036854775807) (hr : PrsC w B A ps) (hlw : lw = xs.length) (hmw : lw ≤ 9223372036854775807) (hrw : Rd w B Aw (ins xs)) (hB : B ≤ w.heap.size) :
    Calls Try.prog 11 #[.agg #[.int .i64 t, .int .i64 n, .int .i64 s, .slice A len c], .slice Aw lw cw] w (RRPost ⟨t, n, s, ps⟩ xs w) := by
  have HB0 : Hid (Bl w (w.alloc (.cells #[.int .i64 t, .int .i64 n, .int .i64 s, .slice A len c] 24))) := (Bl.refl w).alloc _
  have HFt := Lib.hid (fun (wx : World) (hb : Bl w wx) => rfit_any t n s A len c ps Aw lw cw xs wx B hlen hmax (hr.bl hB hb).prs hlw hmw (hrw.bl hB hb) (Nat.le_trans hB hb.size))
  have HK0 := Lib.hid (Bk.new w 24 #[.int .i64 t, .int .i64 n, .int .i64 s, .slice A len c])
  cases hf : fitB ⟨t, n, s, ps⟩ xs with
  | false =>
    rw [hf] at HFt
    have HFf := Lib.hid hf
    clear hf hr hrw hlen hlw
    go_enter Try.func11, Try.ntmps11
    go_wp2_with fail
    refine (HFt.out _ HB0.out).mono ?_
    rintro e w1 ⟨rfl, hb1⟩
    have HB1 := Lib.hid (HB0.out.trans hb1)
    clear hb1
    go_wp2_with fail
    go_ret
    exact ⟨fun h => (by rw [HFf.out] at h; cases h), fun _ => rfl, HB1.out⟩
  | true =>
    rw [hf] at HFt
    have HFf := Lib.hid hf
    obtain ⟨hok, hv, h24⟩ := fit_good hf
    have HOk := Lib.hid hok
    have HV := Lib.hid hv
    have hw24 : lw ≤ 24 := by omega
    have HP : Hid (∀ wx, Bl w wx → PrsC wx B A ps) := fun _ hb => hr.bl hB hb
    have HX : Hid (∀ wx, Bl w wx → Rd wx B Aw (ins xs)) := fun _ hb => hrw.bl hB hb
    have HL := Lib.hid hlw
    have HLn := Lib.hid hlen
    have hpos : 0 < len := by have h : 0 < ps.length := Wi.lives_some hok hv; omega
    have hn1 := hok.2.2.1
    have hn24 := hok.2.2.2.1
    simp only at hn1 hn24
    obtain ⟨N, rfl⟩ : ∃ N : Nat, n = (N : Int) := ⟨n.toNat, by omega⟩
    obtain ⟨i0, hi, hz0, hz1, hz2⟩ := info_parts rrow_info
    clear hf hr hrw hlen hlw hok hv h24
    go_enter Try.func11, Try.ntmps11
    go_wp2_with fail
    refine (HFt.out _ HB0.out).mono ?_
    rintro e w1 ⟨rfl, hb1⟩
    have HB1 := Lib.hid (HB0.out.trans hb1)
    have HK1 := Lib.hid (HK0.out.bl hb1)
    have k0 : w1.cell? ⟨w.heap.size, 0, none⟩ = some (.int .i64 t) := HK1.out.cell 0
    have k1 : w1.cell? ⟨w.heap.size, 1, none⟩ = some (.int .i64 (N : Int)) := HK1.out.cell 1
    have k2 : w1.cell? ⟨w.heap.size, 2, none⟩ = some (.int .i64 s) := HK1.out.cell 2
    have k3 : w1.cell? ⟨w.heap.size, 3, none⟩ = some (.slice A len c) := HK1.out.cell 3
    have kl := HK1.out.lt
    clear hb1 HB0 HK0
    go_wp2_with fail
    refine (spans_any t (N : Int) s A len c ps Aw lw cw xs w1 B HLn.out ((okB_iff _).2 HOk.out) (HP.out _ HB1.out).prs HL.out (by omega) (HX.out _ HB1.out) (Nat.le_trans hB HB1.out.size)).mono ?_
    intro e w2 hS
    obtain ⟨bo, co, B2, rows, T, he, hrows, htab, hsnd, hcls, hb2⟩ := hS.lit (N := N) (m := lw + 1) rfl (by rw [HL.out]) (by omega)
    subst he
    have HT2 := Lib.hid htab
    have HSnd := Lib.hid hsnd
    have HCls := Lib.hid hcls
    have HRl := Lib.hid hrows
    have HB2 := Lib.hid (HB1.out.trans hb2)
    have HK2 := Lib.hid (HK1.out.bl hb2)
    clear k0 k1 k2 k3 kl hS htab hsnd hcls hrows hb2
    have k0 : w2.cell? ⟨w.heap.size, 0, none⟩ = some (.int .i64 t) := HK2.out.cell 0
    have k1 : w2.cell? ⟨w.heap.size, 1, none⟩ = some (.int .i64 (N : Int)) := HK2.out.cell 1
    have k2 : w2.cell? ⟨w.heap.size, 2, none⟩ = some (.int .i64 s) := HK2.out.cell 2
    have k3 : w2.cell? ⟨w.heap.size, 3, none⟩ = some (.slice A len c) := HK2.out.cell 3
    have kl := HK2.out.lt
    go_wp2_with fail
    refine (wild_any t (N : Int) s A len c ps w2 B HLn.out HOk.out hpos (HP.out _ HB2.out) (Nat.le_trans hB HB2.out.size)).mono ?_
    rintro e w3 ⟨A3, c3, rfl, hp3, hb3⟩
    have HP3 := Lib.hid hp3
    have HB3 := Lib.hid (HB2.out.trans hb3)
    have HK3 := Lib.hid (HK2.out.bl hb3)
    have HT3 := Lib.hid (HT2.out.bl_ hb3)
    clear k0 k1 k2 k3 kl hp3 hb3
    go_wp2_with fail
    refine (spans_gen t (2 * (N : Int)) ((N : Int) + s) A3 (Wi.wild ⟨t, (N : Int), s, ps⟩).prods.length c3 (Wi.wild ⟨t, (N : Int), s, ps⟩).prods Aw lw cw xs w3 w3.heap.size rfl ⟨by omega, by omega, by have := Wi.wild_len HOk.out; omega⟩ (fun p hp => Wi.wild_small HOk.out hp) HP3.out HL.out (by omega) ((HX.out _ HB3.out).more (Nat.le_trans hB HB3.out.size)) (Nat.le_refl _)).mono ?_
    intro e w4 hS
    obtain ⟨bw, cw2, B4, rows4, W, he, hrows, htab, hsnd, hcls, hb4⟩ := hS.lit (N := 2 * N) (m := lw + 1) (by show (2 * (N : Int)).toNat = 2 * N; omega) (by rw [HL.out]) (by omega)
    subst he
    have HW4 := Lib.hid htab
    have HSndW : Hid (Cf.Sound (Wi.wild ⟨t, (N : Int), s, ps⟩) xs W) := hsnd
    have HClsW : Hid (Cf.Closed (Wi.wild ⟨t, (N : Int), s, ps⟩) xs W) := hcls
    have HRl4 := Lib.hid hrows
    have HB4 := Lib.hid (HB3.out.trans hb4)
    have HK4 := Lib.hid (HK3.out.bl hb4)
    have HT4 := Lib.hid (HT3.out.bl_ hb4)
    clear hS htab hsnd hcls hrows hb4
    have HO0 : Hid ((w4.alloc (.cells #[] 50)).ownsRow w4.heap.size 50 25 (.slice (some ⟨w4.heap.size, 0, none⟩) 0 0) 0 (nus (25 * 0) (allN ⟨t, (N : Int), s, ps⟩ xs))) := own_empty25 w4 _ _ (Nat.le_refl _)
    go_wp2_with fail
    go_loopw [7, 8] (fun v i wr => ∃ (a : Nat) (Ao : Option Addr) (co : Nat), a ≤ lw + 1 ∧ v = .slice Ao a co ∧ i = .int .i64 a ∧ Hid (wr.ownsRow w4.heap.size 50 25 (.slice Ao a co) a (nus (25 * a) (allN ⟨t, (N : Int), s, ps⟩ xs))) ∧ Hid (Bl w4 wr)) (fun _ i _ => lw + 1 - (intOf i).toNat)
    case atStart => exact ⟨0, _, 0, Nat.zero_le _, rfl, rfl, HO0.out, (Bl.refl w4).alloc _⟩
    case round =>
      obtain ⟨a, Ao, co', ha, rfl, rfl, HO, HBr⟩ := hrel
      obtain ⟨wb, hwb⟩ : ∃ wb : World, wb = wr := ⟨_, rfl⟩
      by_cases hla : a ≤ lw
      · have H0 := Lib.hid (Bk.new wr 50 rc0)
        have hzi : (Try.prog.info? 50).map (·.size) = some 25 := rrow_size
        go_wp2_with (first
          | (with_reducible refine wpList_build_none rfl 50 rfl rc0 build_rrow ?_)
          | (with_reducible refine wpList_alloc_agg rfl 50 rfl rc0 25 rrow_zero ?_)
          | ((with_reducible refine wpList_store_bk ?hg 50 (.tmp 9) (.tmp 33) ?ho wr.heap.size 50 rc0 rc0 ?hx ?hy H0.out rfl ?hi ?h1 ?_); (case h1 => exact rc_one _); (case ho => with_reducible rfl); (case hg => rfl); (case hx => rfl); (case hy => rfl); (case hi => exact hzi.trans (congrArg some (rc_size _).symm)); intro w5 hb5 hf5; have HW5 := Lib.hid (Wn.of_rc (f := fun _ => 0) hb5); have HB5 : Hid (Bl wr w5) := ((Bl.refl wr).alloc _).fr hf5 (fun i hi e => by omega); clear hb5 hf5))
        obtain ⟨gr, hgr⟩ : ∃ gr : Nat, gr = wr.heap.size := ⟨_, rfl⟩
        rw [← hgr] at HW5 ⊢
        have hgw : wr.heap.size ≤ gr := by omega
        have hgwb : wb.heap.size ≤ gr := by rw [hwb]; exact hgw
        have HOb : Hid (wb.ownsRow w4.heap.size 50 25 (.slice Ao a co') a (nus (25 * a) (allN ⟨t, (N : Int), s, ps⟩ xs))) := by rw [hwb]; exact HO.out
        clear hgr H0
        have hB45 : w4.heap.size ≤ wr.heap.size := HBr.out.size
        have hw4 : w.heap.size < w4.heap.size := HK4.out.lt
        go_loopw [10] (fun i wy => ∃ (m : Nat) (F : Nat → Nat), m ≤ N ∧ i = .int .i64 m ∧ Hid (Wn 50 wy gr 25 F) ∧ Hid (Bl wb wy) ∧ Hid (∀ i, i < m → F i = Sp.rowN ⟨t, (N : Int), s, ps⟩ (xs.drop a) i) ∧ Hid (∀ i, m ≤ i → F i = 0)) (fun i _ => N - (intOf i).toNat)
        case atStart => exact ⟨0, fun _ => 0, Nat.zero_le _, rfl, HW5.out, (by rw [hwb]; exact HB5.out), (fun i hi => absurd hi (by omega)), (fun _ _ => rfl)⟩
        case round =>
          obtain ⟨m, F, hm, rfl, HWy, HBy, HDone, HZero⟩ := hrel
          have HBw := Lib.hid (HBr.out.trans (hwb ▸ HBy.out))
          have HKy := Lib.hid (HK4.out.bl HBw.out)
          have k1 : wr.cell? ⟨w.heap.size, 1, none⟩ = some (.int .i64 (N : Int)) := HKy.out.cell 1
          have kl := HKy.out.lt
          by_cases hlm : m < N
          · have HTab := Lib.hid (Sp.rowN_tab HSnd.out HCls.out (show xs.length ≤ 24 by have := HL.out; omega) (a := a) (n := m) (by have := HL.out; omega) (by omega))
            rw [← HL.out] at HTab
            have hm24 : (m : Int) < 24 := by omega
            have hm0 : (0 : Int) ≤ (m : Int) := by omega
            go_wp2_with fail
            go_loopw [11, 12] (fun v i wz => ∃ (j p : Nat) (F' : Nat → Nat), a + j ≤ lw + 1 ∧ i = .int .i64 ((a + j : Nat) : Int) ∧ v = .int .u32 (p : Int) ∧ Hid (p = 2 ^ j) ∧ Hid (Wn 50 wz gr 25 F') ∧ Hid (Bl w4 wz ∧ Fr (fun k => k = gr) wr wz) ∧ Hid (F' m = Sp.bitsN j (fun k => T m a (a + k))) ∧ Hid (∀ i, i ≠ m → F' i = F i)) (fun _ i _ => lw + 1 - (intOf i).toNat)
            case atStart => exact ⟨0, 1, F, by omega, by simp, rfl, rfl, HWy.out, ⟨HBw.out, Fr.refl _ _⟩, (HZero.out m (Nat.le_refl _)).trans (Sp.bitsN_zero _).symm, (fun _ _ => rfl)⟩
            case round =>
              obtain ⟨j, p, F', hj, rfl, rfl, HPw, HWz, HBz, HFm, HFo⟩ := hrel
              by_cases hlj : a + j ≤ lw
              · obtain ⟨r1, cr1, g1, z1, z2, z3, z4, z5, z6⟩ := (HT4.out.bl_ HBz.out.1).peek (n := m) (a := a) (b := a + j) HRl.out hlm (by omega) (by omega)
                have hpj : p = 2 ^ j := HPw.out
                have hp25 : p ≤ 2 ^ 24 := by rw [hpj]; exact Nat.pow_le_pow_right (by decide) (by omega)
                have hp25' : p ≤ 16777216 := hp25
                have HPn : Hid (2 * p = 2 ^ (j + 1)) := by unfold Hid; rw [hpj, Nat.pow_succ, Nat.mul_comm]
                have htwo := nat_two32 (y := p) (by omega)
                have i1 : ((a + j : Nat) : Int) ≤ (lw : Int) := by omega
                have i2 : (0 : Int) ≤ ((a + j : Nat) : Int) := by omega
                have i3 : ((a + j : Nat) : Int) < (lw : Int) + 1 := by omega
                have i4 : (a : Int) < (lw : Int) + 1 := by omega
                have i5 : (0 : Int) ≤ (a : Int) := by omega
                have i6 : (m : Int) < (N : Int) := by omega
                have HNo := Lib.hid (fun h => Sp.bitsN_no (m := j) (f := fun k => T m a (a + k)) h)
                have HYes := Lib.hid (fun h => Sp.bitsN_yes (m := j) (f := fun k => T m a (a + k)) h)
                clear hp25 hpj
                cases hb : T m a (a + j) with
                | false =>
                  have HN2 := Lib.hid (HNo.out hb)
                  rw [hb] at z6
                  clear hb
                  go_wp2_with fail
                  go_roundw
                  case rel => exact ⟨j + 1, 2 * p, F', by omega, by go_num, by rw [Int.natCast_mul]; rfl, HPn.out, HWz.out, HBz.out, (by rw [HN2.out]; exact HFm.out), HFo.out⟩
                  case measure => simp [intOf]; omega
                | true =>
                  have HY2 := Lib.hid (HYes.out hb)
                  rw [hb] at z6
                  clear hb
                  have hc : wr.cell? ⟨gr, m, none⟩ = some (.int .u32 (F' m : Int)) := HWz.out.cell (by omega)
                  have hf := HWz.out.free m
                  have hgl := HWz.out.lt
                  have hlt : F' m < 2 ^ j := by rw [HFm.out]; exact Sp.bitsN_lt _ _
                  have hadd := nat_sum32 (x := F' m) (y := p) (by rw [← HPw.out] at hlt; omega)
                  have HPut := Lib.hid (HWz.out.put (i := m) (by omega) (F' m + p))
                  rw [Int.natCast_add] at HPut
                  have HBp : Hid (Bl w4 (wr.setCell ⟨gr, m, none⟩ (.int .u32 ((F' m : Int) + (p : Int))))) := HBz.out.1.fr ((Fr.refl _ wr).own (g := gr) m _) (fun i hi e => by omega)
                  have HFp := Lib.hid (HBz.out.2.own (g := gr) m (.int .u32 ((F' m : Int) + (p : Int))))
                  clear hlt
                  go_wp2_with fail
                  go_roundw
                  case rel => exact ⟨j + 1, 2 * p, upN F' m (F' m + p), by omega, by go_num, by rw [Int.natCast_mul]; rfl, HPn.out, HPut.out, ⟨HBp.out, HFp.out⟩, (by unfold upN; rw [if_pos rfl, HFm.out, HPw.out]; exact HY2.out.symm), (fun i hi => (if_neg hi).trans (HFo.out i hi))⟩
                  case measure => simp [intOf]; omega
              · have hje : a + j = lw + 1 := by omega
                have HEnd : Hid (F' m = Sp.rowN ⟨t, (N : Int), s, ps⟩ (xs.drop a) m) := by unfold Hid; rw [HFm.out, ← HTab.out, show j = lw - a + 1 by omega]
                go_wp2_with fail
                go_roundw
                case rel => exact ⟨m + 1, F', by omega, by go_num, HWz.out, HBy.out.fr HBz.out.2 (fun i hi e => by omega), (fun i hi => by
                  by_cases e : i = m
                  · subst e; exact HEnd.out
                  · exact (HFo.out i e).trans (HDone.out i (by omega))), (fun i hi => (HFo.out i (by omega)).trans (HZero.out i (by omega)))⟩
                case measure => simp [intOf]; omega
          · have hme : m = N := by omega
            subst hme
            have HWild := Lib.hid (Sp.rowN_wild HOk.out HV.out HSndW.out HClsW.out (a := a) (by have := HL.out; omega))
            rw [← HL.out, show (⟨t, (m : Int), s, ps⟩ : Gr.Gm).nons.toNat = m from rfl] at HWild
            have HNone := Lib.hid (fun (i : Nat) (h1 : m ≤ i) (h2 : i < 24) => Sp.rowN_none HOk.out (xs.drop a) (i := i) h1 h2 (by rw [List.length_drop]; have := HL.out; omega))
            have HRest : Hid (∀ i, i < 24 → F i = Sp.rowN ⟨t, (m : Int), s, ps⟩ (xs.drop a) i) := fun i hi => by
              by_cases e : i < m
              · exact HDone.out i e
              · rw [HZero.out i (by omega), HNone.out i (by omega) hi]
            go_wp2_with fail
            go_loopw [13, 14] (fun v i wz => ∃ (j p : Nat) (F' : Nat → Nat), j ≤ m ∧ i = .int .i64 (j : Int) ∧ v = .int .u32 (p : Int) ∧ Hid (p = 2 ^ j) ∧ Hid (Wn 50 wz gr 25 F') ∧ Hid (Bl w4 wz ∧ Fr (fun k => k = gr) wr wz) ∧ Hid (F' 24 = Sp.bitsN j (fun k => W (m + k) a lw)) ∧ Hid (∀ i, i < 24 → F' i = F i)) (fun _ i _ => m - (intOf i).toNat)
            case atStart => exact ⟨0, 1, F, Nat.zero_le _, rfl, rfl, rfl, HWy.out, ⟨HBw.out, Fr.refl _ _⟩, (HZero.out 24 (by omega)).trans (Sp.bitsN_zero _).symm, (fun _ _ => rfl)⟩
            case round =>
              obtain ⟨j, p, F', hj, rfl, rfl, HPw, HWz, HBz, HFm, HFo⟩ := hrel
              have HKz := Lib.hid (HK4.out.bl HBz.out.1)
              have k1 : wr.cell? ⟨w.heap.size, 1, none⟩ = some (.int .i64 (m : Int)) := HKz.out.cell 1
              have kl := HKz.out.lt
              by_cases hlj : j < m
              · obtain ⟨r1, cr1, g1, z1, z2, z3, z4, z5, z6⟩ := (HW4.out.bl_ HBz.out.1).peek (n := m + j) (a := a) (b := lw) HRl4.out (by omega) (by omega) (by omega)
                have hpj : p = 2 ^ j := HPw.out
                have hp25 : p ≤ 2 ^ 24 := by rw [hpj]; exact Nat.pow_le_pow_right (by decide) (by omega)
                have hp25' : p ≤ 16777216 := hp25
                have HPn : Hid (2 * p = 2 ^ (j + 1)) := by unfold Hid; rw [hpj, Nat.pow_succ, Nat.mul_comm]
                have i4 : (a : Int) < (lw : Int) + 1 := by omega
                have i5 : (0 : Int) ≤ (a : Int) := by omega
                have i6 : (m : Int) + (j : Int) < 2 * (m : Int) := by omega
                have i7 : (0 : Int) ≤ (m : Int) + (j : Int) := by omega
                have i8 : (lw : Int) < (lw : Int) + 1 := by omega
                have i9 : ((m : Int) + (j : Int)).toNat = m + j := by omega
                have HNo := Lib.hid (fun h => Sp.bitsN_no (m := j) (f := fun k => W (m + k) a lw) h)
                have HYes := Lib.hid (fun h => Sp.bitsN_yes (m := j) (f := fun k => W (m + k) a lw) h)
                clear hp25 hpj
                cases hb : W (m + j) a lw with
                | false =>
                  have HN2 := Lib.hid (HNo.out hb)
                  rw [hb] at z6
                  clear hb
                  go_wp2_with fail
                  go_roundw
                  case rel => exact ⟨j + 1, 2 * p, F', by omega, by go_num, by rw [Int.natCast_mul]; rfl, HPn.out, HWz.out, HBz.out, (by rw [HN2.out]; exact HFm.out), HFo.out⟩
                  case measure => simp [intOf]; omega
                | true =>
                  have HY2 := Lib.hid (HYes.out hb)
                  rw [hb] at z6
                  clear hb
                  have hc : wr.cell? ⟨gr, 24, none⟩ = some (.int .u32 (F' 24 : Int)) := HWz.out.cell (by omega)
                  have hf := HWz.out.free 24
                  have hgl := HWz.out.lt
                  have hlt : F' 24 < 2 ^ j := by rw [HFm.out]; exact Sp.bitsN_lt _ _
                  have hadd := nat_sum32 (x := F' 24) (y := p) (by rw [← HPw.out] at hlt; omega)
                  have HPut := Lib.hid (HWz.out.put (i := 24) (by omega) (F' 24 + p))
                  rw [Int.natCast_add] at HPut
                  have HBp : Hid (Bl w4 (wr.setCell ⟨gr, 24, none⟩ (.int .u32 ((F' 24 : Int) + (p : Int))))) := HBz.out.1.fr ((Fr.refl _ wr).own (g := gr) 24 _) (fun i hi e => by omega)
                  have HFp := Lib.hid (HBz.out.2.own (g := gr) 24 (.int .u32 ((F' 24 : Int) + (p : Int))))
                  clear hlt
                  go_wp2_with fail
                  go_roundw
                  case rel => exact ⟨j + 1, 2 * p, upN F' 24 (F' 24 + p), by omega, by go_num, by rw [Int.natCast_mul]; rfl, HPn.out, HPut.out, ⟨HBp.out, HFp.out⟩, (by unfold upN; rw [if_pos rfl, HFm.out, HPw.out]; exact HY2.out.symm), (fun i hi => (if_neg (show ¬ i = 24 by omega)).trans (HFo.out i hi))⟩
                  case measure => simp [intOf]; omega
              · have hje : j = m := by omega
                have HAll : Hid (∀ i, i < 25 → F' i = Sp.rowN ⟨t, (m : Int), s, ps⟩ (xs.drop a) i) := fun i hi => by
                  by_cases e : i = 24
                  · subst e; rw [HFm.out, hje]; exact HWild.out
                  · exact (HFo.out i (by omega)).trans (HRest.out i (by omega))
                clear hje
                have HrowC : Hid (∀ i, i < 25 → wr.cell? ⟨gr, 0 + i, none⟩ = some (.int .u32 (F' i : Int))) := fun i hi => by rw [Nat.zero_add]; exact HWz.out.cell hi
                have HBz1 : Hid (Bl wb wr) := (HBy.out).fr HBz.out.2 (fun i hi e => by omega)
                have HOz := Lib.hid (own_alloc (own_bl HOb.out HBz1.out) (.cells (rc F') 50))
                have HBb : Hid (Bl w4 (wr.alloc (.cells (rc F') 50))) := HBz.out.1.alloc _
                have HNx := Lib.hid (nus_allN ⟨t, (m : Int), s, ps⟩ xs a HAll.out)
                go_wp2_with (first
                  | ((with_reducible refine wpList_load_row ?hg 50 (.tmp 9) ?ho gr 0 F' _ ?hx Try.underlying50 rfl hzi HrowC.out ?_); (case ho => with_reducible rfl); (case hg => rfl); (case hx => rfl))
                  | ((with_reducible refine wpList_build1 ?hg 29 50 (.tmp 96) ?ho F' ?hx (build1_rrow _) ?_); (case ho => with_reducible rfl); (case hg => rfl); (case hx => rfl))
                  | (at_builtin; refine wpList_append_own _ rfl (.tmp 95) (.tmp 97) 29 rfl w4.heap.size 50 i0 (.agg rc0) 25 100 Try.underlying29 hi hz0 hz1 hz2 (rc_size _) (by decide) (.slice Ao a co') a (nus (25 * a) (allN ⟨t, (m : Int), s, ps⟩ xs)) rfl HOz.out ⟨wr.heap.size, 0, none⟩ 1 1 (rc F').toList rfl (by rw [Array.length_toList, rc_size]) (cells_new wr (rc F') 50) (us_one _) (by simp only [maxLen]; omega) (by omega) HBb.out.size ?_; intro v9 w9 hown9 hg9 _; obtain ⟨A9, c9, hv9, hd9⟩ := own_form hown9; subst hv9; have HO9 := Lib.hid hown9; have HB9 : Hid (Bl w4 w9) := HBb.out.grown hg9 (fun k hk => (HO.out.lt k hk).1); clear hown9 hg9 hd9))
                have HO10 : Hid (w9.ownsRow w4.heap.size 50 25 (.slice A9 (a + 1) c9) (a + 1) (nus (25 * (a + 1)) (allN ⟨t, (m : Int), s, ps⟩ xs))) := by rw [HNx.out]; exact HO9.out
                go_roundw
                case rel => exact ⟨a + 1, A9, c9, by omega, rfl, by go_num, HO10.out, HB9.out⟩
                case measure => simp [intOf]; omega
      · have hae : a = lw + 1 := by omega
        subst hae
        go_wp2_with fail
        go_ret
        refine ⟨fun _ => ⟨Ao, co', by rw [← HL.out]; rfl, ?_⟩, fun h => (by rw [HFf.out] at h; cases h), HB4.out.trans HBr.out⟩
        obtain ⟨g9, c9, h9, _⟩ := own_at HO.out (by omega)
        injection h9 with h9 _ h10
        subst h9
        subst h10
        rw [← HL.out]
        exact own_rdW HO.out
end Go.Proofs.Ythfhnjoeippenaa
