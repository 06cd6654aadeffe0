/- FirstMeans' contract: with what a word that comes of a nonterminal begins is in its set. -/
import Derived.Test.YtebjbahbaiialaaFAwake
import Derived.Test.YtebjbahbaiialaaHPeek
import Derived.Test.YtebjbahbaiialaaKLarge
import Derived.Test.YtebjbahbaiialaaGRRight
import Derived.BigQuiet
namespace Go.Proofs.Ytebjbahbaiialaa
open Go.RowKit

/-- What a table of spans and the sets say, held against each other. -/
theorem firstBit {t s : Int} {N : Nat} {ps : List Gr.Pr} {bs : List Nat} {T : Cf.Tb} (hg : Gr.Ok ⟨t, (N : Int), s, ps⟩) (hs : Cf.Sound ⟨t, (N : Int), s, ps⟩ (mods bs) T) (hc : Cf.Closed ⟨t, (N : Int), s, ps⟩ (mods bs) T)
    {n e : Nat} (he : 1 ≤ e) (hle : e ≤ bs.length) (hb : 0 < bs.length) (h : T n 0 e = true) : ((Fi.numR ⟨t, (N : Int), s, ps⟩).getD n 0).testBit (bs[0] % 16) = true := by
  have h1 := (Cf.table hs hc n (a := 0) (b := e) (Nat.zero_le _) (by rw [mods_len]; exact hle)).1 h
  have e1 : Cf.part (mods bs) 0 e = ((bs[0] % 16 : Nat) : Int) :: ((mods bs).drop 1).take (e - 1) := by
    cases bs with
    | nil => simp at hb
    | cons x r =>
      cases e with
      | zero => omega
      | succ e => rfl
  rw [e1] at h1
  have h2 := Fi.first_means hg (Fi.first_numR hg) h1 (t := bs[0] % 16) rfl
  unfold Fi.of at h2
  rw [if_pos rfl] at h2
  have h3 : (Fi.tb (Fi.numR ⟨t, (N : Int), s, ps⟩) n (bs[0] % 16) || (Fi.nulls ⟨t, (N : Int), s, ps⟩ n && false)) = true := h2
  rw [Bool.and_false, Bool.or_false] at h3
  exact h3
theorem bit_and {x d : Nat} (hx : x < 4294967296) (h : x.testBit d = true) : bits .and .u32 ((x : Int) / 2 ^ d) 1 = 1 := by
  have e : (x : Int) / 2 ^ d = ((x / 2 ^ d : Nat) : Int) := by
    rw [Int.natCast_ediv, Int.natCast_pow]; rfl
  have hl : x / 2 ^ d < 4294967296 := Nat.lt_of_le_of_lt (Nat.div_le_self _ _) hx
  rw [e]
  have h1 := u32_and_nat (x / 2 ^ d) 1 hl (by decide)
  have h2 : x / 2 ^ d &&& 1 = 1 := by
    rw [Nat.and_one_is_mod]
    rw [Nat.testBit_eq_decide_div_mod_eq] at h
    exact of_decide_eq_true h
  rw [h2] at h1
  exact h1

set_option maxRecDepth 100000 in
set_option maxHeartbeats 8000000 in
theorem firstMeans_any (t n s : Int) (A : Option Addr) (len c : Nat) (ps : List Gr.Pr) (Ab : Option Addr) (lb cb : Nat) (bs : List Nat) (W : World)
    (hlen : len = ps.length) (hmax : len ≤ 9223372036854775807) (hr : Prs W W.heap.size A ps) (hlb : lb = bs.length) (hmb : lb ≤ 9223372036854775807) (hrb : Rd W W.heap.size Ab (bys bs)) (hby : ∀ x ∈ bs, x < 256) :
    Calls Try.prog 4 #[.agg #[.int .i64 t, .int .i64 n, .int .i64 s, .slice A len c], .slice Ab lb cb] W fun e w' => e = .returned (.bool true) ∧ Bl W w' := by
  obtain ⟨i0, hi, hz0, hz1, hz2⟩ := info_parts word_int_info
  have HL := Lib.hid hlen; clear hlen
  have HLB := Lib.hid hlb; clear hlb
  have HY := Lib.hid hby; clear hby
  have HP : Hid (∀ w', Bl W w' → Prs w' w'.heap.size A ps) := fun _ hb => (hr.bl (Nat.le_refl _) hb).more hb.size
  have HF : Hid (∀ w', Bl W w' → Rd w' w'.heap.size Ab (bys bs)) := fun _ hb => rd_on hrb hb
  clear hr hrb
  have HB0 : Hid (Bl W (W.alloc (.cells #[.int .i64 t, .int .i64 n, .int .i64 s, .slice A len c] 24))) := (Bl.refl W).alloc _
  have HK0 := Lib.hid (Bk.new W 24 #[.int .i64 t, .int .i64 n, .int .i64 s, .slice A len c])
  go_enter Try.func4, Try.ntmps4
  go_wp2_with fail
  refine (awake11_any _).mono ?_
  rintro e w1 ⟨rfl, hb1⟩
  have HB1 := Lib.hid (HB0.out.trans hb1)
  have HK1 := Lib.hid (HK0.out.bl hb1)
  clear hb1 HB0 HK0
  have k0 : w1.cell? ⟨W.heap.size, 0, none⟩ = some (.int .i64 t) := HK1.out.cell 0
  have k1 : w1.cell? ⟨W.heap.size, 1, none⟩ = some (.int .i64 n) := HK1.out.cell 1
  have k2 : w1.cell? ⟨W.heap.size, 2, none⟩ = some (.int .i64 s) := HK1.out.cell 2
  have k3 : w1.cell? ⟨W.heap.size, 3, none⟩ = some (.slice A len c) := HK1.out.cell 3
  go_wp2_with fail
  refine (large9_any t n s A len c ps _ w1.heap.size HL.out hmax (HP.out _ HB1.out) (Nat.le_refl _)).mono ?_
  rintro e w2 ⟨rfl, hb2⟩
  have HB2 := Lib.hid (HB1.out.trans hb2)
  have HK2 := Lib.hid (HK1.out.bl hb2)
  clear hb2 k0 k1 k2 k3 HB1 HK1
  have k0 : w2.cell? ⟨W.heap.size, 0, none⟩ = some (.int .i64 t) := HK2.out.cell 0
  have k1 : w2.cell? ⟨W.heap.size, 1, none⟩ = some (.int .i64 n) := HK2.out.cell 1
  have k2 : w2.cell? ⟨W.heap.size, 2, none⟩ = some (.int .i64 s) := HK2.out.cell 2
  have k3 : w2.cell? ⟨W.heap.size, 3, none⟩ = some (.slice A len c) := HK2.out.cell 3
  have klt : W.heap.size < w2.heap.size := HK2.out.lt
  cases hlg : lgB ps with
  | true =>
    go_wp2_with fail
    go_ret
    exact ⟨rfl, HB2.out⟩
  | false =>
  clear hlg
  by_cases h30 : 30 < len
  · go_wp2_with fail
    go_ret
    exact ⟨rfl, HB2.out⟩
  go_wp2_with fail
  refine (rright_any t n s A len c ps _ w2.heap.size HL.out hmax (HP.out _ HB2.out) (Nat.le_refl _)).mono ?_
  rintro e w3 ⟨rfl, hb3⟩
  have HB3 := Lib.hid (HB2.out.trans hb3)
  have HK3 := Lib.hid (HK2.out.bl hb3)
  clear hb3 k0 k1 k2 k3 klt HB2 HK2
  cases hok : okB ⟨t, n, s, ps⟩ with
  | false =>
    go_wp2_with fail
    go_ret
    exact ⟨rfl, HB3.out⟩
  | true =>
  by_cases h0 : lb = 0
  · subst h0
    go_wp2_with fail
    go_ret
    exact ⟨rfl, HB3.out⟩
  have hq0 : ((lb : Int) == 0) = false := by simp; omega
  by_cases h5 : 5 < lb
  · go_wp2_with fail
    go_ret
    exact ⟨rfl, HB3.out⟩
  obtain ⟨n1, n2, n3⟩ := ok_nons hok
  obtain ⟨N, rfl⟩ : ∃ N : Nat, n = (N : Int) := ⟨n.toNat, by omega⟩
  have HOK := Lib.hid hok
  have HOk : Hid (Gr.Ok ⟨t, (N : Int), s, ps⟩) := (okB_iff _).1 hok
  have HFi := Lib.hid (firstsOf_ok hok)
  have hN0 : 0 < N := by omega
  have H0 := Lib.hid h0
  clear hok h0
  go_wp2_with fail
  clear hq0
  go_loopw [5, 39] (fun v i wr => ∃ k : Nat, k ≤ lb ∧ i = .int .i64 k ∧ Hid (wr.ownsRow w3.heap.size 3 1 v k (ins (mods (bs.take k)))) ∧ Hid (Bl w3 wr)) (fun _ i _ => lb - (intOf i).toNat)
  case atStart => exact ⟨0, Nat.zero_le _, rfl, World.ownsRow_nil _ _ _ _, Bl.refl _⟩
  case round =>
    obtain ⟨k, hk, rfl, HO, HBr⟩ := hrel
    have hsz : w3.heap.size ≤ wr.heap.size := HBr.out.size
    by_cases hlt : k < lb
    · have hj : k < bs.length := by have := HLB.out; omega
      obtain ⟨b, off, rfl, hb, hcell⟩ := (HF.out _ (HB3.out.trans HBr.out)).byte hj
      have hx := HY.out _ (List.getElem_mem hj)
      have HSn := Lib.hid (mods_snoc hj)
      generalize bs[k] = x at *
      have HOw := Lib.hid (HO.out.alloc (.cells #[.int .i64 ((x : Int) % 16)] 3))
      clear hj
      go_wp2_with (at_builtin; (refine wpList_append_own _ rfl (.tmp 43) (.tmp 47) 46 rfl w3.heap.size 3 i0 (.int .i64 0) 1 8 Try.underlying46 hi hz0 hz1 hz2 rfl (by decide) _ _ _ rfl HOw.out ⟨wr.heap.size, 0, none⟩ 1 1 [.int .i64 ((x : Int) % 16)] rfl rfl (one_new _ _ _) (by simp [Value.oneCell']) (by simp only [maxLen]; omega) (by omega) (by rw [World.size_alloc]; omega) ?_); intro v5 w5 hown5 hg5 _; (have HX : Hid (w5.ownsRow w3.heap.size 3 1 v5 (k + 1) (ins (mods (bs.take (k + 1))))) := by (rw [HSn.out, ins_append]; exact hown5)); (have HZ : Hid (Bl w3 w5) := (HBr.out.alloc _).grown hg5 (fun k hk => (HO.out.lt k hk).1); clear hown5 hg5))
      go_roundw
      case rel => exact ⟨k + 1, by omega, by go_num, HX.out, HZ.out⟩
      case measure => simp [intOf]; omega
    · have hkl : k = lb := by omega
      obtain ⟨Aw, cw, hv, _⟩ := own_form HO.out
      subst hv
      subst hkl
      obtain ⟨w4, rfl⟩ : ∃ w4 : World, w4 = wr := ⟨_, rfl⟩
      have HWd : Hid (Rd w4 w4.heap.size Aw (ins (mods bs))) := by
        have h := Rd.own HO.out
        rw [List.take_of_length_le (by have := HLB.out; omega)] at h
        exact h
      have HLm : Hid (k = (mods bs).length) := by rw [mods_len]; exact HLB.out
      have HB4 := Lib.hid (HB3.out.trans HBr.out)
      have HK4 := Lib.hid (HK3.out.bl HBr.out)
      have k0 : w4.cell? ⟨W.heap.size, 0, none⟩ = some (.int .i64 t) := HK4.out.cell 0
      have k1 : w4.cell? ⟨W.heap.size, 1, none⟩ = some (.int .i64 (N : Int)) := HK4.out.cell 1
      have k2 : w4.cell? ⟨W.heap.size, 2, none⟩ = some (.int .i64 s) := HK4.out.cell 2
      have k3 : w4.cell? ⟨W.heap.size, 3, none⟩ = some (.slice A len c) := HK4.out.cell 3
      have hk1 : k + 1 ≤ 6 := by omega
      have hb0 : 0 < bs.length := by have := HLB.out; have := H0.out; omega
      have hkp : ¬ k = 0 := H0.out
      have HKp := Lib.hid hkp
      clear hkp
      go_wp2_with fail
      refine (first_any t (N : Int) s A len c ps _ w4.heap.size HL.out hmax (HP.out _ HB4.out) (Nat.le_refl _)).mono ?_
      intro e w5 h5'
      obtain ⟨A5, c5, he5, hr5, hb5⟩ := h5'.lit (k := N) HFi.out (Fi.numR_len _)
      subst he5
      have HN5 := Lib.hid hr5
      have HB5 := Lib.hid (HB4.out.trans hb5)
      have HK5 := Lib.hid (HK4.out.bl hb5)
      have HW5 := Lib.hid (rd_on HWd.out hb5)
      clear h5' hr5 hb5 k0 k1 k2 k3
      have k0 : w5.cell? ⟨W.heap.size, 0, none⟩ = some (.int .i64 t) := HK5.out.cell 0
      have k1 : w5.cell? ⟨W.heap.size, 1, none⟩ = some (.int .i64 (N : Int)) := HK5.out.cell 1
      have k2 : w5.cell? ⟨W.heap.size, 2, none⟩ = some (.int .i64 s) := HK5.out.cell 2
      have k3 : w5.cell? ⟨W.heap.size, 3, none⟩ = some (.slice A len c) := HK5.out.cell 3
      have klt : W.heap.size < w5.heap.size := HK5.out.lt
      go_wp2_with fail
      refine (spans_any t N s A len c ps Aw k cw (mods bs) _ w5.heap.size HL.out HOK.out (HP.out _ HB5.out) HLm.out (by omega) HW5.out (Nat.le_refl _)).mono ?_
      intro e w6 h6
      obtain ⟨bo, c6, B6, rows, TT, he6, hl6, ht6, hs6, hc6, hb6⟩ := h6.lit (N := N) (m := k + 1) rfl (by rw [← HLm.out]) hN0
      subst he6
      have HT := Lib.hid ht6
      have HRw := Lib.hid hl6
      have HBit := Lib.hid (fun (n e : Nat) (h1 : 1 ≤ e) (h2 : e ≤ bs.length) (h4 : TT n 0 e = true) => firstBit HOk.out hs6 hc6 h1 h2 hb0 h4)
      have HB6 := Lib.hid (HB5.out.trans hb6)
      have HK6 := Lib.hid (HK5.out.bl hb6)
      have HW6 := Lib.hid (rd_on HW5.out hb6)
      have HN6 := Lib.hid (rd_on HN5.out hb6)
      clear h6 hl6 ht6 hs6 hc6 hb6 k0 k1 k2 k3 klt
      have k1 : w6.cell? ⟨W.heap.size, 1, none⟩ = some (.int .i64 (N : Int)) := HK6.out.cell 1
      have klt : W.heap.size < w6.heap.size := HK6.out.lt
      go_wp2_with fail
      clear k1 klt
      have hmb0 : 0 < (mods bs).length := by rw [mods_len]; exact hb0
      obtain ⟨bw, ow, rfl, hbw, hcw⟩ := HW6.out.int hmb0
      have hd : (mods bs)[0] = ((bs[0] % 16 : Nat) : Int) := by
        cases bs with
        | nil => simp at hb0
        | cons x r => rfl
      rw [hd] at hcw
      have HCw := Lib.hid hcw
      have hd16 : bs[0] % 16 < 16 := Nat.mod_lt _ (by decide)
      clear hcw hd hmb0
      generalize bs[0] % 16 = d at *
      go_loopw [62] (fun v wr => ∃ j : Nat, j ≤ N ∧ v = .int .i64 j ∧ Hid (Bl w6 wr)) (fun v _ => N - (intOf v).toNat)
      case atStart => exact ⟨0, Nat.zero_le _, rfl, Bl.refl _⟩
      case round =>
        obtain ⟨j, hj, rfl, HBj⟩ := hrel
        by_cases hltj : j < N
        · go_wp2_with fail
          have HBjj := Lib.hid HBj.out
          go_loopw [11] (fun v wr => ∃ e : Nat, 1 ≤ e ∧ e ≤ k + 1 ∧ v = .int .i64 e ∧ Hid (Bl w6 wr)) (fun v _ => k + 1 - (intOf v).toNat)
          case atStart => exact ⟨1, Nat.le_refl _, by omega, rfl, HBj.out⟩
          case round =>
            obtain ⟨e, he1, he2, rfl, HBe⟩ := hrel
            by_cases hle : e ≤ k
            · have hjn : j < (Fi.numR ⟨t, (N : Int), s, ps⟩).length := by rw [Fi.numR_len]; exact hltj
              obtain ⟨r1, cr1, g1, x1, x2, x3, x4, x5, x6⟩ := (HT.out.bl_ HBe.out).peek HRw.out hltj (show 0 < k + 1 by omega) (show e < k + 1 by omega)
              obtain ⟨b5, o5, rfl, hb5, hc5⟩ := (HN6.out.bl (Nat.le_refl _) HBe.out).u32 hjn
              have hcw : wr.cell? ⟨bw, ow, none⟩ = some (.int .i64 (d : Nat)) := by
                have h := (Below.cell HBe.out (p := ⟨bw, ow + 0, none⟩) hbw).trans HCw.out
                rwa [Nat.add_zero] at h
              have hsz : w6.heap.size ≤ wr.heap.size := HBe.out.size
              have hbww : bw < wr.heap.size := by omega
              have hb5w : b5 < wr.heap.size := by omega
              have HB := Lib.hid (HBit.out j e he1 (by have := HLB.out; omega))
              have HXl := Lib.hid (Fi.numR_lt ⟨t, (N : Int), s, ps⟩ j)
              generalize (Fi.numR ⟨t, (N : Int), s, ps⟩).getD j 0 = x at *
              have hj0 : (0 : Int) ≤ (j : Int) := by omega
              have hj1 : (j : Int) < (N : Int) := by omega
              have he0 : (0 : Int) ≤ (e : Int) := by omega
              have hek : (e : Int) < ((k + 1 : Nat) : Int) := by omega
              have hek2 : (e : Int) < (k : Int) + 1 := by omega
              have hk0 : (0 : Int) < (k : Int) := by have := HKp.out; omega
              have hk00 : (0 : Int) < (k : Int) + 1 := by omega
              have hle2 : (e : Int) ≤ (k : Int) := by omega
              have hd0 : (0 : Int) ≤ (d : Int) := by omega
              clear hjn
              cases hT : TT j 0 e with
              | false =>
                rw [hT] at x6
                clear hT
                go_wp2_with fail
                go_quiet (fail)
                go_wp2_with fail
                go_roundw
                case rel => exact ⟨e + 1, by omega, by omega, by go_num, by first | exact HBe.out.drewN _ | exact HBe.out.drew⟩
                case measure => simp [intOf]; omega
              | true =>
                rw [hT] at x6
                have hand := bit_and HXl.out (HB.out hT)
                have hand2 : bits .and .u32 ((x : Int) / 2 ^ min d 32) 1 = 1 := by rw [Nat.min_eq_left (by omega)]; exact hand
                clear hT
                go_wp2_with fail
                go_quiet (fail)
                go_wp2_with fail
                go_roundw
                case rel => exact ⟨e + 1, by omega, by omega, by go_num, by first | exact HBe.out.drewN _ | exact HBe.out.drew⟩
                case measure => simp [intOf]; omega
            · have hle2 : ¬ ((e : Int) ≤ (k : Int)) := by omega
              go_wp2_with fail
              go_roundw
              case rel => exact ⟨j + 1, by omega, by go_num, HBe.out⟩
              case measure => simp [intOf]; omega
        · go_wp2_with fail
          go_ret
          exact ⟨rfl, HB6.out.trans HBj.out⟩
end Go.Proofs.Ytebjbahbaiialaa
