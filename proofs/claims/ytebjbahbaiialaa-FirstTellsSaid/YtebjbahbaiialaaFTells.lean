/- FirstTells' contract: what layer 11 tells is what the document says. -/
import Derived.Test.YtebjbahbaiialaaFAwake
import Derived.Test.YtebjbahbaiialaaFTRegion
import Derived.Test.YtebjbahbaiialaaFThere
import Derived.Test.YtebjbahbaiialaaKLarge
namespace Go.Proofs.Ytebjbahbaiialaa
open Go.RowKit

theorem colF_of {g : Gr.Gm} (hg : Gr.Ok g) {l : List Gr.Sy} (hs : Fi.SyOk g.nons.toNat l) : Fi.numL ((List.range 32).map (Fi.of (colF g) (Fi.nulls g) l)) = Fi.ofN (Fi.numR g) (Fi.nulls g) l := by
  apply Nat.eq_of_testBit_eq
  intro t
  rw [Fi.numL_bit, Fi.ofN_bit t (fun s hx => (hs s hx).1)]
  have hlt := Fi.ofN_lt (nl := Fi.nulls g) (Fi.numR_lt g) (l := l) (fun s hx e => (hs s hx).2.2 e)
  have e : Fi.of (colF g) (Fi.nulls g) l t = Fi.of (Fi.tb (Fi.numR g)) (Fi.nulls g) l t := by
    cases h : Fi.of (colF g) (Fi.nulls g) l t with
    | true => exact (Fi.of_mono (F := colF g) (G := Fi.tb (Fi.numR g)) (N := g.nons.toNat) (fun n hn hb => by rw [Fi.tb_numR' hg hn]; exact hb) (fun s hx e => by have h1 := (hs s hx).2.1 e; have h2 := (hs s hx).1; omega) h).symm
    | false =>
      cases h2 : Fi.of (Fi.tb (Fi.numR g)) (Fi.nulls g) l t with
      | false => rfl
      | true =>
        rw [Fi.of_mono (F := Fi.tb (Fi.numR g)) (G := colF g) (N := g.nons.toNat) (fun n hn hb => by rw [Fi.tb_numR' hg hn] at hb; exact hb) (fun s hx e => by have h1 := (hs s hx).2.1 e; have h2 := (hs s hx).1; omega) h2] at h
        cases h
  rcases Nat.lt_or_ge t 32 with ht | ht
  · rw [List.getD_eq_getElem?_getD, List.getElem?_map, List.getElem?_range ht]
    exact e
  · rw [List.getD_eq_getElem?_getD, List.getElem?_eq_none (by rw [List.length_map, List.length_range]; exact ht)]
    show false = _
    rw [← Fi.ofN_bit t (fun s hx => (hs s hx).1), Nat.testBit_lt_two_pow (Nat.lt_of_lt_of_le hlt (Nat.pow_le_pow_right (by decide) ht : 2 ^ 32 ≤ 2 ^ t))]
set_option maxRecDepth 100000 in
set_option maxHeartbeats 8000000 in
theorem firstTells_any (t n s : Int) (A : Option Addr) (len c : Nat) (ps : List Gr.Pr) (Ax : Option Addr) (lx cx : Nat) (l : List Gr.Sy) (W : World)
    (hlen : len = ps.length) (hmax : len ≤ 9223372036854775807) (hr : Prs W W.heap.size A ps) (hlx : lx = l.length) (hmx : lx ≤ 9223372036854775807) (hrx : Rd W W.heap.size Ax (syRow l)) :
    Calls Try.prog 3 #[.agg #[.int .i64 t, .int .i64 n, .int .i64 s, .slice A len c], .slice Ax lx cx] W fun e w' => e = .returned (.bool true) ∧ Bl W w' := by
  have HL := Lib.hid hlen; clear hlen
  have HLX := Lib.hid hlx; clear hlx
  have HP : Hid (∀ w', Bl W w' → Prs w' w'.heap.size A ps) := fun _ hb => (hr.bl (Nat.le_refl _) hb).more hb.size
  have HX : Hid (∀ w', Bl W w' → Rd w' w'.heap.size Ax (syRow l)) := fun _ hb => rd_on hrx hb
  clear hr hrx
  have HB0 : Hid (Bl W (W.alloc (.cells #[.int .i64 t, .int .i64 n, .int .i64 s, .slice A len c] 24))) := (Bl.refl W).alloc _
  have HK0 := Lib.hid (Bk.new W 24 #[.int .i64 t, .int .i64 n, .int .i64 s, .slice A len c])
  go_enter Try.func3, Try.ntmps3
  go_wp2_with fail
  refine (awake11_any _).mono ?_
  rintro e w1 ⟨rfl, hb1⟩
  have HB1 := Lib.hid (HB0.out.trans hb1)
  have HK1 := Lib.hid (HK0.out.bl hb1)
  clear hb1 HB0 HK0
  have k0 : w1.cell? ⟨W.heap.size, 0, none⟩ = some (.int .i64 t) := HK1.out.cell 0
  have k1 : w1.cell? ⟨W.heap.size, 1, none⟩ = some (.int .i64 n) := HK1.out.cell 1
  have k2 : w1.cell? ⟨W.heap.size, 2, none⟩ = some (.int .i64 s) := HK1.out.cell 2
  have k3 : w1.cell? ⟨W.heap.size, 3, none⟩ = some (.slice A len c) := HK1.out.cell 3
  go_wp2_with fail
  refine (large9_any t n s A len c ps _ w1.heap.size HL.out hmax (HP.out _ HB1.out) (Nat.le_refl _)).mono ?_
  rintro e w2 ⟨rfl, hb2⟩
  have HBw := Lib.hid (HB1.out.trans hb2)
  have HK2 := Lib.hid (HK1.out.bl hb2)
  clear hb2 k0 k1 k2 k3 HB1 HK1
  cases hlg : lgB ps with
  | true =>
    go_wp2_with fail
    go_ret
    exact ⟨rfl, HBw.out⟩
  | false =>
  clear hlg
  by_cases h20 : 20 < lx
  · go_wp2_with fail
    go_ret
    exact ⟨rfl, HBw.out⟩
  have k0 : w2.cell? ⟨W.heap.size, 0, none⟩ = some (.int .i64 t) := HK2.out.cell 0
  have k1 : w2.cell? ⟨W.heap.size, 1, none⟩ = some (.int .i64 n) := HK2.out.cell 1
  have k2 : w2.cell? ⟨W.heap.size, 2, none⟩ = some (.int .i64 s) := HK2.out.cell 2
  have k3 : w2.cell? ⟨W.heap.size, 3, none⟩ = some (.slice A len c) := HK2.out.cell 3
  go_wp2_with fail
  refine (fof_any t n s A len c ps Ax lx cx l _ w2.heap.size HL.out hmax (HP.out _ HBw.out) HLX.out hmx (HX.out _ HBw.out) (Nat.le_refl _)).mono ?_
  rintro e w3 ⟨rfl, hb3⟩
  have HB3 := Lib.hid (HBw.out.trans hb3)
  have HKc := Lib.hid (HK2.out.bl hb3)
  clear hb3 k0 k1 k2 k3 HBw HK2
  go_wp2_with fail
  have HPc : Hid (∀ w', Bl w3 w' → Prs w' w'.heap.size A ps) := fun _ hb => HP.out _ (HB3.out.trans hb)
  have HBc := Lib.hid (Bl.refl w3)
  have hn24 := firstsOf_short ⟨t, n, s, ps⟩
  have hs24 : setsN ⟨t, n, s, ps⟩ ≤ 1000000 := by rw [← numsOf_len (setsN ⟨t, n, s, ps⟩) (colF ⟨t, n, s, ps⟩), numsOf_firsts]; omega
  have tk1 : True := trivial
  have tk2 : True := trivial
  have tk3 : True := trivial
  have tk4 : True := trivial
  generalize hnum : ofNum ⟨t, n, s, ps⟩ l = num
  generalize hall : ofAll ⟨t, n, s, ps⟩ l = all
  have HNum := Lib.hid hnum; have HAll := Lib.hid hall
  clear hnum hall
  go_region_held3 (fun w' => w'.cell? ⟨W.heap.size, 0, none⟩ = some (.int .i64 t) ∧ w'.cell? ⟨W.heap.size, 1, none⟩ = some (.int .i64 n) ∧ w'.cell? ⟨W.heap.size, 2, none⟩ = some (.int .i64 s) ∧ w'.cell? ⟨W.heap.size, 3, none⟩ = some (.slice A len c)) (exact ⟨HKc.out.cell 0, HKc.out.cell 1, HKc.out.cell 2, HKc.out.cell 3⟩) (first
    | (go_at_call 10; have _t := tk1; ((with_reducible refine (first_any t n s A len c ps _ w3.heap.size HL.out hmax (prs_drew (HPc.out w3 (Bl.refl w3))) (Nat.le_refl _)).mono ?_); intro e v1 h1; obtain ⟨A1, c1, he1, hr1, hb1⟩ := h1.lit rfl rfl; subst he1; have H1 := Lib.hid hr1; have HBc := Lib.hid (Bl.undrew hb1); have HKc := Lib.hid (HKc.out.bl (Bl.undrew hb1)); clear h1 hr1 hb1; clear tk1))
    | (go_at_call 12; have _t := tk2; ((with_reducible refine (rfirst_any t n s A len c ps _ v1.heap.size HL.out hmax (HPc.out v1 HBc.out) (Nat.le_refl _)).mono ?_); intro e v2 h2; obtain ⟨A2, c2, he2, hr2, hb2⟩ := h2.lit rfl; subst he2; have H2 := Lib.hid hr2; have H1 := Lib.hid (rd_on H1.out hb2); have HBc := Lib.hid (HBc.out.trans hb2); have HKc := Lib.hid (HKc.out.bl hb2); clear h2 hr2 hb2; clear tk2))
    | (go_at_call 11; have _t := tk3; ((with_reducible refine (numbers_any A2 _ c2 (colF ⟨t, n, s, ps⟩) _ v2.heap.size hs24 H2.out (Nat.le_refl _)).mono ?_); intro e v3 h3; obtain ⟨A3, c3, he3, hr3, hb3⟩ := h3.lit (numsOf_firsts ⟨t, n, s, ps⟩) rfl; subst he3; have H3 := Lib.hid hr3; have H1 := Lib.hid (rd_on H1.out hb3); have HBc := Lib.hid (HBc.out.trans hb3); have HKc := Lib.hid (HKc.out.bl hb3); clear h3 hr3 hb3; clear tk3))
    | (go_at_call 9; have _t := tk4; ((with_reducible refine (usame_any A1 A3 _ _ c1 c3 (firstsOf ⟨t, n, s, ps⟩) (firstsOf ⟨t, n, s, ps⟩) _ v3.heap.size rfl rfl (by omega) H1.out H3.out).mono ?_); rintro e v4 ⟨rfl, hb4⟩; rw [decide_eq_true rfl]; have HBc := Lib.hid (HBc.out.trans hb4); have HKc := Lib.hid (HKc.out.bl hb4); clear hb4; clear tk4)))
  have k0 : v4.cell? ⟨W.heap.size, 0, none⟩ = some (.int .i64 t) := HKc.out.cell 0
  have k1 : v4.cell? ⟨W.heap.size, 1, none⟩ = some (.int .i64 n) := HKc.out.cell 1
  have k2 : v4.cell? ⟨W.heap.size, 2, none⟩ = some (.int .i64 s) := HKc.out.cell 2
  have k3 : v4.cell? ⟨W.heap.size, 3, none⟩ = some (.slice A len c) := HKc.out.cell 3
  have HB4 := Lib.hid (HB3.out.trans HBc.out)
  go_wp2_with fail
  refine (rright_any t n s A len c ps _ v4.heap.size HL.out hmax (HP.out _ HB4.out) (Nat.le_refl _)).mono ?_
  rintro e w5 ⟨rfl, hb5⟩
  have HB5 := Lib.hid (HB4.out.trans hb5)
  have HK5 := Lib.hid (HKc.out.bl hb5)
  clear hb5 k0 k1 k2 k3
  cases hok : okB ⟨t, n, s, ps⟩ with
  | false =>
    have e1 : num = 0 := by rw [← HNum.out]; exact ofNum_no (mayOf_bad hok)
    have e2 : all = false := by rw [← HAll.out]; exact ofAll_no (mayOf_bad hok)
    subst e1 e2
    clear hok
    go_wp2_with fail
    go_ret
    exact ⟨rfl, HB5.out⟩
  | true =>
  have k0 : w5.cell? ⟨W.heap.size, 0, none⟩ = some (.int .i64 t) := HK5.out.cell 0
  have k1 : w5.cell? ⟨W.heap.size, 1, none⟩ = some (.int .i64 n) := HK5.out.cell 1
  have k2 : w5.cell? ⟨W.heap.size, 2, none⟩ = some (.int .i64 s) := HK5.out.cell 2
  have k3 : w5.cell? ⟨W.heap.size, 3, none⟩ = some (.slice A len c) := HK5.out.cell 3
  have HM := Lib.hid (mayOf_is (l := l) hok)
  have HOK := Lib.hid hok; clear hok
  go_wp2_with fail
  refine (there_any t n s A len c Ax lx cx l _ w5.heap.size HLX.out hmx (HX.out _ HB5.out) (Nat.le_refl _)).mono ?_
  rintro e w6 ⟨rfl, hb6⟩
  have HB6 := Lib.hid (HB5.out.trans hb6)
  have HK6 := Lib.hid (HK5.out.bl hb6)
  clear hb6 k0 k1 k2 k3
  cases hla : l.all (okSyB t n) with
  | false =>
    have e1 : num = 0 := by rw [← HNum.out]; exact ofNum_no (HM.out.trans hla)
    have e2 : all = false := by rw [← HAll.out]; exact ofAll_no (HM.out.trans hla)
    subst e1 e2
    clear hla
    go_wp2_with fail
    go_ret
    exact ⟨rfl, HB6.out⟩
  | true =>
  obtain ⟨n1, n2, n3⟩ := ok_nons HOK.out
  obtain ⟨_, ht16, _⟩ := (okB_iff _).1 HOK.out
  have ht16 : t ≤ 16 := ht16
  obtain ⟨N, rfl⟩ : ∃ N : Nat, n = (N : Int) := ⟨n.toNat, by omega⟩
  have HSy : Hid (Fi.SyOk N l) := syOk_all (g := ⟨t, (N : Int), s, ps⟩) ht16 (by show (0 : Int) ≤ (N : Int); omega) hla
  have HOk : Hid (Gr.Ok ⟨t, (N : Int), s, ps⟩) := (okB_iff _).1 HOK.out
  have HCol := Lib.hid (colF_of HOk.out (l := l) HSy.out)
  have e1 : num = Fi.ofN (Fi.numR ⟨t, (N : Int), s, ps⟩) (Fi.nulls ⟨t, (N : Int), s, ps⟩) l := by rw [← HNum.out]; exact ofNum_yes (HM.out.trans hla)
  have e2 : all = Fi.allNull (Fi.nulls ⟨t, (N : Int), s, ps⟩) l := by rw [← HAll.out]; exact ofAll_yes (HM.out.trans hla)
  have HE1 := Lib.hid e1
  clear hla e1
  go_wp2_with fail
  refine tellsRegion t s A len c N ps Ax lx cx l w6 W.heap.size _ _ _ _ _ _ _ _ _ _ _ _ _ _ _ _ _ _ _ _ _ _ _ _ _ _ _ _ _ _ _ _ _ _ _ _ _ _ _ _ _ _ _ _ _ _ _ _ _ _ _ _ _ _ _ _ _ _ _ _ _ _ _ HL.out HOK.out (HP.out _ HB6.out) HLX.out hmx (HX.out _ HB6.out) HSy.out HK6.out (fun _ a a' _ h hq => by obtain ⟨ta, da⟩ := a; obtain ⟨tb, db⟩ := a'; cases h; exact hq) ?_
  intro g7 x46 x47 x48 x49 x50 x51 x52 x53 x54 w7 hb7 hbl7
  have HB7 := Lib.hid (HB6.out.trans hbl7)
  have H7 := Lib.hid hb7
  clear hb7 hbl7
  go_wp2_with ((with_reducible refine wpList_load_bk ?hg 39 (.tmp 7) ?ho g7 39 (bls 32 (Fi.of (colF ⟨t, (N : Int), s, ps⟩) (Fi.nulls ⟨t, (N : Int), s, ps⟩) l)).toArray 32 4 ?hx H7.out Try.underlying39 ?hi ?_); (case ho => with_reducible rfl); (case hg => rfl); (case hx => rfl); (case hi => rw [bls_size]; exact set_size))
  refine (number_any _ (Fi.of (colF ⟨t, (N : Int), s, ps⟩) (Fi.nulls ⟨t, (N : Int), s, ps⟩) l) w7 rfl).mono ?_
  rw [HCol.out, ← HE1.out]
  rintro e w8 ⟨rfl, hb8⟩
  have HB8 := Lib.hid (HB7.out.trans hb8)
  clear hb8
  subst e2
  generalize Fi.allNull (Fi.nulls ⟨t, (N : Int), s, ps⟩) l = all at *
  have hq : ((num : Int) == (num : Int)) = true := by simp
  have hq2 : (all == all) = true := by simp
  go_wp2_with fail
  go_ret
  exact ⟨rfl, HB8.out⟩
end Go.Proofs.Ytebjbahbaiialaa
