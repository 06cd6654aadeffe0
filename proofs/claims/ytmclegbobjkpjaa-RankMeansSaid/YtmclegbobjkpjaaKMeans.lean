/- RankMeans' contract. -/
import Derived.Test.YtmclegbobjkpjaaKLaw2
import Derived.Test.YtmclegbobjkpjaaHSpans2
namespace Go.Proofs.Ytmclegbobjkpjaa
open Go.RowKit

theorem SPost.lit {g : Gr.Gm} {N m : Nat} {xs : List Int} {w w' : World} {e : Ending} (h : SPost g xs w e w') (hN : g.nons.toNat = N) (hm : xs.length + 1 = m) (hN0 : 0 < N) :
    ∃ (bo c B0 : Nat) (rows : List RowD) (T : Cf.Tb), e = .returned (.slice (some ⟨bo, 0, none⟩) N c) ∧ rows.length = N ∧ Tab B0 m (.slice (some ⟨bo, 0, none⟩) N c) rows T w' ∧ Cf.Sound g xs T ∧ Cf.Closed g xs T ∧ Bl w w' := by
  subst hN hm
  obtain ⟨A, c, B0, rows, T, he, hl, ht, h1, h2, h3⟩ := h
  obtain ⟨bo, co, hv, _, _⟩ := ht.own.form (by omega)
  injection hv with hv1 _ _
  subst hv1
  exact ⟨bo, c, B0, rows, T, he, hl, ht, h1, h2, h3⟩
theorem Tab.peek {B0 m N bo c n a b : Nat} {rows : List RowD} {T : Cf.Tb} {w : World} (h : Tab B0 m (.slice (some ⟨bo, 0, none⟩) N c) rows T w) (hl : rows.length = N) (hn : n < N) (ha : a < m) (hb : b < m) : ∃ r cr g, bo < w.heap.size ∧
    w.cell? ⟨bo, n, none⟩ = some (.slice (some ⟨r, 0, none⟩) m cr) ∧ r < w.heap.size ∧ w.cell? ⟨r, a, none⟩ = some (.slice (some ⟨g, 0, none⟩) m m) ∧ g < w.heap.size ∧ w.cell? ⟨g, b, none⟩ = some (.bool (T n a b)) := by
  obtain ⟨g, h1, h2, h3, h4, h5, h6, _⟩ := h.read0 (n := n) (by omega) ha hb
  exact ⟨_, _, g, h1, h2, h3, h4, h5, h6⟩
/-- What a nonterminal's facts and tables say, held against each other. -/
theorem means {t s : Int} {N : Nat} {ps : List Gr.Pr} {xs : List Int} {T1 T2 : Cf.Tb} (hok : okB ⟨t, (N : Int), s, ps⟩ = true) (h1 : Cf.Sound ⟨t, (N : Int), s, ps⟩ [] T1) (c1 : Cf.Closed ⟨t, (N : Int), s, ps⟩ [] T1)
    (h2 : Cf.Sound ⟨t, (N : Int), s, ps⟩ xs T2) (c2 : Cf.Closed ⟨t, (N : Int), s, ps⟩ xs T2) (k : Nat) :
    T1 k 0 0 = decide (Rk.rk (Rk.ranks false ps N) k ≠ 0) ∧ (T2 k 0 xs.length = true → Rk.rk (Rk.ranks true ps N) k ≠ 0) ∧ (Rk.rk (Rk.ranks false ps N) k ≠ 0 → Rk.rk (Rk.ranks true ps N) k ≠ 0) := by
  have hg : Gr.Ok ⟨t, (N : Int), s, ps⟩ := (okB_iff _).1 hok
  have e1 := Cf.table h1 c1 k (a := 0) (b := 0) (Nat.le_refl _) (Nat.le_refl _)
  have e2 := Cf.table h2 c2 k (a := 0) (b := xs.length) (Nat.zero_le _) (Nat.le_refl _)
  rw [Cf.part_self] at e1
  rw [Cf.part_all] at e2
  have n1 := Rk.null_iff hg k
  have n2 := Rk.some_iff hg k
  have eN : (⟨t, (N : Int), s, ps⟩ : Gr.Gm).nons.toNat = N := rfl
  rw [eN] at n1 n2
  refine ⟨?_, fun h => n2.2 ⟨xs, e2.1 h⟩, fun h => n2.2 ⟨[], n1.1 h⟩⟩
  rw [Bool.eq_iff_iff, decide_eq_true_eq]
  exact e1.trans n1.symm
/-- The word that the law makes of bytes. -/
def mods (bs : List Nat) : List Int := ns (bs.map (· % 16))
theorem mods_len (bs : List Nat) : (mods bs).length = bs.length := by simp [mods, ns]
theorem mods_snoc {bs : List Nat} {k : Nat} (h : k < bs.length) : mods (bs.take (k + 1)) = mods (bs.take k) ++ [(bs[k] : Int) % 16] := by
  rw [List.take_succ_eq_append_getElem h]
  simp only [mods, ns, List.map_append, List.map_cons, List.map_nil]
  rfl

set_option maxRecDepth 100000 in
set_option maxHeartbeats 8000000 in
theorem rankMeans_any (t n s : Int) (A : Option Addr) (len c : Nat) (ps : List Gr.Pr) (Ab : Option Addr) (lb cb : Nat) (bs : List Nat) (W : World)
    (hlen : len = ps.length) (hmax : len ≤ 9223372036854775807) (hr : Prs W W.heap.size A ps) (hlb : lb = bs.length) (hmb : lb ≤ 9223372036854775807) (hrb : Rd W W.heap.size Ab (bys bs)) (hby : ∀ x ∈ bs, x < 256) :
    Calls Try.prog 5 #[.agg #[.int .i64 t, .int .i64 n, .int .i64 s, .slice A len c], .slice Ab lb cb] W fun e w' => e = .returned (.bool true) ∧ Bl W w' := by
  obtain ⟨i0, hi, hz0, hz1, hz2⟩ := info_parts of_int_info
  have HL := Lib.hid hlen; clear hlen
  have HLB := Lib.hid hlb; clear hlb
  have HY := Lib.hid hby; clear hby
  have HP : Hid (∀ w', Bl W w' → Prs w' w'.heap.size A ps) := fun _ hb => (hr.bl (Nat.le_refl _) hb).more hb.size
  have HF : Hid (∀ w', Bl W w' → Rd w' w'.heap.size Ab (bys bs)) := fun _ hb => rd_on hrb hb
  clear hr hrb
  have HB0 : Hid (Bl W (W.alloc (.cells #[.int .i64 t, .int .i64 n, .int .i64 s, .slice A len c] 24))) := (Bl.refl W).alloc _
  have HK0 := Lib.hid (Bk.new W 24 #[.int .i64 t, .int .i64 n, .int .i64 s, .slice A len c])
  go_enter Try.func5, Try.ntmps5
  go_wp2_with fail
  refine (awake9_any _).mono ?_
  rintro e w1 ⟨rfl, hb1⟩
  have HB1 := Lib.hid (HB0.out.trans hb1)
  have HK1 := Lib.hid (HK0.out.bl hb1)
  clear hb1 HB0 HK0
  have k0 : w1.cell? ⟨W.heap.size, 0, none⟩ = some (.int .i64 t) := HK1.out.cell 0
  have k1 : w1.cell? ⟨W.heap.size, 1, none⟩ = some (.int .i64 n) := HK1.out.cell 1
  have k2 : w1.cell? ⟨W.heap.size, 2, none⟩ = some (.int .i64 s) := HK1.out.cell 2
  have k3 : w1.cell? ⟨W.heap.size, 3, none⟩ = some (.slice A len c) := HK1.out.cell 3
  go_wp2_with fail
  refine (large9_any t n s A len c ps _ w1.heap.size HL.out hmax (HP.out _ HB1.out) (Nat.le_refl _)).mono ?_
  rintro e w2 ⟨rfl, hb2⟩
  have HB2 := Lib.hid (HB1.out.trans hb2)
  have HK2 := Lib.hid (HK1.out.bl hb2)
  clear hb2 k0 k1 k2 k3 HB1 HK1
  have k0 : w2.cell? ⟨W.heap.size, 0, none⟩ = some (.int .i64 t) := HK2.out.cell 0
  have k1 : w2.cell? ⟨W.heap.size, 1, none⟩ = some (.int .i64 n) := HK2.out.cell 1
  have k2 : w2.cell? ⟨W.heap.size, 2, none⟩ = some (.int .i64 s) := HK2.out.cell 2
  have k3 : w2.cell? ⟨W.heap.size, 3, none⟩ = some (.slice A len c) := HK2.out.cell 3
  have klt : W.heap.size < w2.heap.size := HK2.out.lt
  cases hlg : lgB ps with
  | true =>
    go_wp2_with fail
    go_ret
    exact ⟨rfl, HB2.out⟩
  | false =>
  clear hlg
  by_cases h30 : 30 < len
  · go_wp2_with fail
    go_ret
    exact ⟨rfl, HB2.out⟩
  go_wp2_with fail
  refine (rright_any t n s A len c ps _ w2.heap.size HL.out hmax (HP.out _ HB2.out) (Nat.le_refl _)).mono ?_
  rintro e w3 ⟨rfl, hb3⟩
  have HB3 := Lib.hid (HB2.out.trans hb3)
  have HK3 := Lib.hid (HK2.out.bl hb3)
  clear hb3 k0 k1 k2 k3 klt HB2 HK2
  cases hok : okB ⟨t, n, s, ps⟩ with
  | false =>
    go_wp2_with fail
    go_ret
    exact ⟨rfl, HB3.out⟩
  | true =>
  by_cases h5 : 5 < lb
  · go_wp2_with fail
    go_ret
    exact ⟨rfl, HB3.out⟩
  obtain ⟨n1, n2, n3⟩ := ok_nons hok
  obtain ⟨N, rfl⟩ : ∃ N : Nat, n = (N : Int) := ⟨n.toNat, by omega⟩
  have HOK := Lib.hid hok; clear hok
  have hN0 : 0 < N := by omega
  go_wp2_with fail
  go_loopw [5, 35] (fun v i wr => ∃ k : Nat, k ≤ lb ∧ i = .int .i64 k ∧ Hid (wr.ownsRow w3.heap.size 3 1 v k (ins (mods (bs.take k)))) ∧ Hid (Bl w3 wr)) (fun _ i _ => lb - (intOf i).toNat)
  case atStart => exact ⟨0, Nat.zero_le _, rfl, World.ownsRow_nil _ _ _ _, Bl.refl _⟩
  case round =>
    obtain ⟨k, hk, rfl, HO, HBr⟩ := hrel
    have hsz : w3.heap.size ≤ wr.heap.size := HBr.out.size
    by_cases hlt : k < lb
    · have hj : k < bs.length := by have := HLB.out; omega
      obtain ⟨b, off, rfl, hb, hcell⟩ := (HF.out _ (HB3.out.trans HBr.out)).byte hj
      have hx := HY.out _ (List.getElem_mem hj)
      have HSn := Lib.hid (mods_snoc hj)
      generalize bs[k] = x at *
      have HOw := Lib.hid (HO.out.alloc (.cells #[.int .i64 ((x : Int) % 16)] 3))
      clear hj
      go_wp2_with (at_builtin; (refine wpList_append_own _ rfl (.tmp 39) (.tmp 43) 35 rfl w3.heap.size 3 i0 (.int .i64 0) 1 8 Try.underlying35 hi hz0 hz1 hz2 rfl (by decide) _ _ _ rfl HOw.out ⟨wr.heap.size, 0, none⟩ 1 1 [.int .i64 ((x : Int) % 16)] rfl rfl (one_new _ _ _) (by simp [Value.oneCell']) (by simp only [maxLen]; omega) (by omega) (by rw [World.size_alloc]; omega) ?_); intro v5 w5 hown5 hg5 _; (have HX : Hid (w5.ownsRow w3.heap.size 3 1 v5 (k + 1) (ins (mods (bs.take (k + 1))))) := by (rw [HSn.out, ins_append]; exact hown5)); (have HZ : Hid (Bl w3 w5) := (HBr.out.alloc _).grown hg5 (fun k hk => (HO.out.lt k hk).1); clear hown5 hg5))
      go_roundw
      case rel => exact ⟨k + 1, by omega, by go_num, HX.out, HZ.out⟩
      case measure => simp [intOf]; omega
    · have hkl : k = lb := by omega
      obtain ⟨Aw, cw, hv, _⟩ := own_form HO.out
      subst hv
      subst hkl
      obtain ⟨w4, rfl⟩ : ∃ w4 : World, w4 = wr := ⟨_, rfl⟩
      have HWd : Hid (Rd w4 w4.heap.size Aw (ins (mods bs))) := by
        have h := Rd.own HO.out
        rw [List.take_of_length_le (by have := HLB.out; omega)] at h
        exact h
      have HLm : Hid (k = (mods bs).length) := by rw [mods_len]; exact HLB.out
      have HB4 := Lib.hid (HB3.out.trans HBr.out)
      have HKc := Lib.hid (HK3.out.bl HBr.out)
      have HMean := Lib.hid (fun (T1 T2 : Cf.Tb) h1 c1 h2 c2 j => means (T1 := T1) (T2 := T2) (xs := mods bs) HOK.out h1 c1 h2 c2 j)
      have HPc : Hid (∀ w', Bl w4 w' → Prs w' w'.heap.size A ps) := fun _ hb => HP.out _ (HB4.out.trans hb)
      have HWc : Hid (∀ w', Bl w4 w' → Rd w' w'.heap.size Aw (ins (mods bs))) := fun _ hb => rd_on HWd.out hb
      have HOn : Hid ((factsOf false ⟨t, (N : Int), s, ps⟩) = fz (Rk.ranks false ps N)) := factsOf_ok HOK.out
      have HOp : Hid ((factsOf true ⟨t, (N : Int), s, ps⟩) = fz (Rk.ranks true ps N)) := factsOf_ok HOK.out
      have hk1 : k + 1 ≤ 6 := by omega
      go_wp2_with fail
      have tk1 : True := trivial
      have tk2 : True := trivial
      go_region_held3 (fun w' => w'.cell? ⟨W.heap.size, 0, none⟩ = some (.int .i64 t) ∧ w'.cell? ⟨W.heap.size, 1, none⟩ = some (.int .i64 (N : Int)) ∧ w'.cell? ⟨W.heap.size, 2, none⟩ = some (.int .i64 s) ∧ w'.cell? ⟨W.heap.size, 3, none⟩ = some (.slice A len c)) (exact ⟨HKc.out.cell 0, HKc.out.cell 1, HKc.out.cell 2, HKc.out.cell 3⟩) (first
        | (go_at_call 15; have _t := tk1; ((with_reducible refine (spans_any t N s A len c ps none 0 0 [] _ w4.heap.size HL.out HOK.out (prs_drew (HPc.out w4 (Bl.refl w4))) rfl (by decide) Rd.nil (Nat.le_refl _)).mono ?_); intro e v1 h1; obtain ⟨bo1, c1, B1, rows1, T1, he1, hl1, ht1, hs1, hc1, hb1⟩ := h1.lit (N := N) (m := 1) rfl rfl hN0; subst he1; have HT1 := Lib.hid ht1; have HS1 := Lib.hid hs1; have HC1 := Lib.hid hc1; have HR1 := Lib.hid hl1; have HBc := Lib.hid (Bl.undrew hb1); have HKc := Lib.hid (HKc.out.bl (Bl.undrew hb1)); clear h1 hl1 ht1 hs1 hc1 hb1; clear tk1))
        | (go_at_call 15; have _t := tk2; ((with_reducible refine (spans_any t N s A len c ps Aw k cw (mods bs) _ v1.heap.size HL.out HOK.out (HPc.out v1 HBc.out) HLm.out (by omega) (HWc.out v1 HBc.out) (Nat.le_refl _)).mono ?_); intro e v2 h2; obtain ⟨bo2, c2, B2, rows2, T2, he2, hl2, ht2, hs2, hc2, hb2⟩ := h2.lit (N := N) (m := k + 1) rfl (by rw [← HLm.out]) hN0; subst he2; have HT2 := Lib.hid ht2; have HT1 := Lib.hid (HT1.out.bl_ hb2); have HS2 := Lib.hid hs2; have HC2 := Lib.hid hc2; have HR2 := Lib.hid hl2; have HBc := Lib.hid (HBc.out.trans hb2); have HKc := Lib.hid (HKc.out.bl hb2); clear h2 hl2 ht2 hs2 hc2 hb2; clear tk2)))
      have tk3 : True := trivial
      have tk4 : True := trivial
      go_wp2_with fail
      go_region_held3 (fun w' => w'.cell? ⟨W.heap.size, 0, none⟩ = some (.int .i64 t) ∧ w'.cell? ⟨W.heap.size, 1, none⟩ = some (.int .i64 (N : Int)) ∧ w'.cell? ⟨W.heap.size, 2, none⟩ = some (.int .i64 s) ∧ w'.cell? ⟨W.heap.size, 3, none⟩ = some (.slice A len c)) (exact ⟨HKc.out.cell 0, HKc.out.cell 1, HKc.out.cell 2, HKc.out.cell 3⟩) (first
        | (go_at_call 9; have _t := tk3; ((with_reducible refine (nullable_any t N s A len c ps _ v2.heap.size HL.out hmax (prs_drew (HPc.out v2 HBc.out)) (Nat.le_refl _)).mono ?_); intro e v3 h3; obtain ⟨An, cn, he3, hr3, hb3⟩ := h3.lit (k := N) HOn.out (by rw [fz_len, Rk.ranks_length]); subst he3; have HN := Lib.hid hr3; have HT1 := Lib.hid (HT1.out.bl_ (Bl.undrew hb3)); have HT2 := Lib.hid (HT2.out.bl_ (Bl.undrew hb3)); have HBc := Lib.hid (HBc.out.trans (Bl.undrew hb3)); have HKc := Lib.hid (HKc.out.bl (Bl.undrew hb3)); clear h3 hr3 hb3; clear tk3))
        | (go_at_call 11; have _t := tk4; ((with_reducible refine (productive_any t N s A len c ps _ v3.heap.size HL.out hmax (HPc.out v3 HBc.out) (Nat.le_refl _)).mono ?_); intro e v4 h4; obtain ⟨Ap, cp, he4, hr4, hb4⟩ := h4.lit (k := N) HOp.out (by rw [fz_len, Rk.ranks_length]); subst he4; have HQ := Lib.hid hr4; have HN := Lib.hid (rd_on HN.out hb4); have HT1 := Lib.hid (HT1.out.bl_ hb4); have HT2 := Lib.hid (HT2.out.bl_ hb4); have HBc := Lib.hid (HBc.out.trans hb4); have HKc := Lib.hid (HKc.out.bl hb4); clear h4 hr4 hb4; clear tk4)))
      have k1 : v4.cell? ⟨W.heap.size, 1, none⟩ = some (.int .i64 (N : Int)) := HKc.out.cell 1
      have klt : W.heap.size < v4.heap.size := HKc.out.lt
      go_wp2_with fail
      clear k1 klt
      go_loopw [69] (fun i wr => ∃ j : Nat, j ≤ N ∧ i = .int .i64 j ∧ Hid (Bl v4 wr)) (fun i _ => N - (intOf i).toNat)
      case atStart => exact ⟨0, Nat.zero_le _, rfl, Bl.refl _⟩
      case round =>
        obtain ⟨j, hj, rfl, HBj⟩ := hrel
        by_cases hltj : j < N
        · have hjn : j < (fz (Rk.ranks false ps N)).length := by rw [fz_len, Rk.ranks_length]; exact hltj
          have hjp : j < (fz (Rk.ranks true ps N)).length := by rw [fz_len, Rk.ranks_length]; exact hltj
          have hsz : v4.heap.size ≤ wr.heap.size := HBj.out.size
          obtain ⟨bn, on, rfl, hbn, f0, f1⟩ := (HN.out.bl (Nat.le_refl _) HBj.out).fact hjn
          obtain ⟨bp, op, rfl, hbp, q0, q1⟩ := (HQ.out.bl (Nat.le_refl _) HBj.out).fact hjp
          rw [fz_rank] at f0 q0
          obtain ⟨r1, cr1, g1, x1, x2, x3, x4, x5, x6⟩ := (HT1.out.bl_ HBj.out).peek HR1.out hltj (show 0 < 1 by omega) (show 0 < 1 by omega)
          obtain ⟨r2, cr2, g2, y1, y2, y3, y4, y5, y6⟩ := (HT2.out.bl_ HBj.out).peek HR2.out hltj (show 0 < k + 1 by omega) (show k < k + 1 by omega)
          obtain ⟨m1, m2, m3⟩ := HMean.out T1 T2 HS1.out HC1.out HS2.out HC2.out j
          rw [← HLm.out] at m2
          generalize T1 j 0 0 = b1 at *
          generalize T2 j 0 k = b2 at *
          generalize Rk.rk (Rk.ranks false ps N) j = rn at *
          generalize Rk.rk (Rk.ranks true ps N) j = rp at *
          have hbnw : bn < wr.heap.size := by omega
          have hbpw : bp < wr.heap.size := by omega
          have hj0 : (0 : Int) ≤ (j : Int) := by omega
          have hj1 : (j : Int) < (N : Int) := by omega
          have hk0 : (0 : Int) ≤ (k : Int) := by omega
          have hk2 : (k : Int) < ((k + 1 : Nat) : Int) := by omega
          clear f1 q1 hjn hjp
          by_cases hrn : rn = 0
          · subst hrn
            have hb1 : b1 = false := by rw [m1]; simp
            subst hb1
            clear m1 m3
            cases b2 with
            | false =>
              clear m2
              go_wp2_with fail
              go_quiet (fail)
              go_wp2_with fail
              go_roundw
              case rel => exact ⟨j + 1, by omega, by go_num, by first | exact HBj.out.drewN _ | exact HBj.out.drew⟩
              case measure => simp [intOf]; omega
            | true =>
              have hrp := m2 rfl
              have hq : (((rp : Nat) : Int) == 0) = false := by simp; omega
              clear m2 hrp
              go_wp2_with fail
              go_quiet (fail)
              go_wp2_with fail
              go_roundw
              case rel => exact ⟨j + 1, by omega, by go_num, by first | exact HBj.out.drewN _ | exact HBj.out.drew⟩
              case measure => simp [intOf]; omega
          · have hb1 : b1 = true := by rw [m1]; simp [hrn]
            subst hb1
            have hrp := m3 hrn
            have hq : (((rp : Nat) : Int) == 0) = false := by simp; omega
            have hrn0 : (0 : Int) < (rn : Int) := by omega
            clear m1 m2 m3 hrp hrn
            generalize ((rn : Nat) : Int) = zn at f0 hrn0
            generalize ((rp : Nat) : Int) = zp at q0 hq
            have hd : decide ((0 : Int) < zn) = true := decide_eq_true hrn0
            cases b2 with
            | false =>
              go_wp2_with fail
              go_quiet (fail)
              go_wp2_with fail
              go_roundw
              case rel => exact ⟨j + 1, by omega, by go_num, by first | exact HBj.out.drewN _ | exact HBj.out.drew⟩
              case measure => simp [intOf]; omega
            | true =>
              go_wp2_with fail
              go_quiet (fail)
              go_wp2_with fail
              go_roundw
              case rel => exact ⟨j + 1, by omega, by go_num, by first | exact HBj.out.drewN _ | exact HBj.out.drew⟩
              case measure => simp [intOf]; omega
        · go_wp2_with fail
          go_ret
          exact ⟨rfl, HB4.out.trans (HBc.out.trans HBj.out)⟩
end Go.Proofs.Ytmclegbobjkpjaa
