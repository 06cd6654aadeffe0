/- awake of layer 3: the calls whose answers the document fixes. -/
import Derived.Test.YtlfobnpkfloolaaGSmall
namespace Go.Proofs.Ytlfobnpkfloolaa
open Go.RowKit

def smallG : Gr.Gm := ⟨1, 1, 0, smallPs⟩
theorem aw_ok : okB ⟨1, 1, 0, smallPs⟩ = true := by decide
theorem aw_bytes : bytesOf ⟨1, 1, 0, smallPs⟩ = [1, 1, 0, 2, 0, 0, 0, 2, 0, 1] := by decide
theorem aw_err : errOf ⟨1, 1, 0, smallPs⟩ = 0 := by decide
theorem aw_read : readOf [1, 1, 0, 2, 0, 0, 0, 2, 0, 1] = (⟨1, 1, 0, smallPs⟩, 0) := by rfl
theorem aw_none : readOf [0, 0, 0, 0] = (⟨0, 0, 0, []⟩, 2) := by rfl
theorem aw_zero : okB ⟨0, 0, 0, []⟩ = false := by decide
theorem aw_of : ns (ofK smallPs 0 smallPs.length) = [0, 1] := by rfl
theorem RdPost.lit {t n s x : Int} {ps : List Gr.Pr} {len : Nat} {w w' : World} {e : Ending} (h : RdPost ⟨t, n, s, ps⟩ x w e w') (hl : ps.length = len) :
    ∃ (A : Option Addr) (c : Nat), e = .returned (.tuple #[.agg #[.int .i64 t, .int .i64 n, .int .i64 s, .slice A len c], .int .i64 x]) ∧ Prs w' w'.heap.size A ps ∧ Bl w w' := by subst hl; exact h
theorem GBPost.lit {g : Gr.Gm} {x : Int} {l : List Nat} {w w' : World} {e : Ending} (h : GBPost g w e w') (hx : errOf g = x) (hl : bytesOf g = l) :
    ∃ A n c, e = .returned (.tuple #[.slice A n c, .int .i64 x]) ∧ n = l.length ∧ n ≤ c ∧ w'.ownsRow w.heap.size 5 1 (.slice A n c) n (bys l) ∧ Bl w w' := by subst hx; subst hl; exact h
theorem IMakes.lit {xs : List Int} {n : Nat} {w w' : World} {e : Ending} (h : IMakes xs w e w') (hn : xs.length = n) : ∃ A c, e = .returned (.slice A n c) ∧ Rd w' w'.heap.size A (ins xs) ∧ Bl w w' := by
  subst hn
  obtain ⟨A, c, he, _, ho, hb⟩ := h
  exact ⟨A, c, he, Rd.own ho, hb⟩
theorem ClPost.lit {t n s : Int} {len : Nat} {ps : List Gr.Pr} {w w' : World} {e : Ending} (h : ClPost t n s len ps w e w') : ∃ (A : Option Addr) (c : Nat), e = .returned (.agg #[.int .i64 t, .int .i64 n, .int .i64 s, .slice A len c]) ∧ Prs w' w'.heap.size A ps ∧ Bl w w' := by
  obtain ⟨A, c, ks, he, hm, ho, hb⟩ := h
  exact ⟨A, c, he, by rw [← hm]; exact ho.prs, hb⟩
theorem aw_unlike : decide ((⟨1, 1, 0, smallPs⟩ : Gr.Gm) = ⟨0, 0, 0, []⟩) = false := by decide
theorem same_bl (A A' : Option Addr) (len len' cap cap' : Nat) (l r : List Nat) (w : World) (B : Nat) (hl : len = l.length) (hl' : len' = r.length) (hmax : len ≤ 9223372036854775807) (hr : Rd w B A (bys l)) (hr' : Rd w B A' (bys r)) :
    Calls Try.prog 21 #[.slice A len cap, .slice A' len' cap'] w fun e w' => e = .returned (.bool (decide (l = r))) ∧ Bl w w' :=
  (same_any A A' len len' cap cap' l r w B hl hl' hmax hr hr').mono fun e w' ⟨he, q, hq⟩ => ⟨he, by subst hq; exact (Bl.refl w).drewN q⟩
theorem isame_bl (A A' : Option Addr) (len len' cap cap' : Nat) (l r : List Int) (w : World) (B : Nat) (hl : len = l.length) (hl' : len' = r.length) (hmax : len ≤ 9223372036854775807) (hr : Rd w B A (ins l)) (hr' : Rd w B A' (ins r)) :
    Calls Try.prog 18 #[.slice A len cap, .slice A' len' cap'] w fun e w' => e = .returned (.bool (decide (l = r))) ∧ Bl w w' :=
  (isame_any A A' len len' cap cap' l r w B hl hl' hmax hr hr').mono fun e w' ⟨he, q, hq⟩ => ⟨he, by subst hq; exact (Bl.refl w).drewN q⟩
theorem small_right : ∀ p ∈ smallPs, p.right.length ≤ 1000000000 := by decide
theorem small_right' : ∀ p ∈ smallPs, p.right.length ≤ 9223372036854775807 := by decide

set_option maxRecDepth 100000 in
set_option maxHeartbeats 8000000 in
theorem gawake_any (w : World) : Calls Try.prog 7 #[] w fun e w' => e = .returned (.bool true) ∧ Bl w w' := by
  go_enter Try.func7, Try.ntmps7
  go_wp2_with fail
  refine (small_any _).mono ?_
  rintro e w1 ⟨A1, c1, rfl, hp1, hb1⟩
  have HP1 := Lib.hid hp1; have HB1 := Lib.hid hb1; clear hp1 hb1
  go_wp2_with fail
  refine (gbytes_any 1 1 0 A1 2 c1 smallPs _ w1.heap.size rfl (by decide) HP1.out (Nat.le_refl _)).mono ?_
  intro e w2 h2
  obtain ⟨A2, n2, c2, rfl, hn2, hc2, ho2, hb2⟩ := h2.lit aw_err aw_bytes
  obtain rfl : n2 = 10 := hn2
  have HO2 := Lib.hid (Rd.own ho2)
  have HB2 := Lib.hid (HB1.out.trans hb2)
  clear h2 ho2 hb2 hc2
  go_wp2_with fail
  refine (gread_any A2 10 c2 [1, 1, 0, 2, 0, 0, 0, 2, 0, 1] _ w2.heap.size rfl (by decide) HO2.out (Nat.le_refl _) (by decide)).mono ?_
  rw [aw_read]
  intro e w3 h3
  obtain ⟨A3, c3, rfl, hp3, hb3⟩ := h3.lit (len := 2) rfl
  have HP3 := Lib.hid hp3
  have HO3 := Lib.hid (HO2.out.bl (Nat.le_refl _) hb3)
  have HB3 := Lib.hid (HB2.out.trans hb3)
  have hs3 : w2.heap.size ≤ w3.heap.size := (Bl.own hb3).size
  have HK3 := Lib.hid ((Bk.new w3 24 #[.int .i64 1, .int .i64 1, .int .i64 0, .slice A3 2 c3]).alloc (.cells #[.int .u8 0, .int .u8 0, .int .u8 0, .int .u8 0] 5))
  have HR4 : Hid (Rd ((w3.alloc (.cells #[.int .i64 1, .int .i64 1, .int .i64 0, .slice A3 2 c3] 24)).alloc (.cells #[.int .u8 0, .int .u8 0, .int .u8 0, .int .u8 0] 5)) (w3.heap.size + 1 + 1) (some ⟨w3.heap.size + 1, 0, none⟩) (bys [0, 0, 0, 0])) := Rd.newly _ _ _ _ _ _ (by simp) (by omega) rfl
  clear h3 hp3 hb3
  go_wp2_with fail
  refine (gread_any _ 4 4 [0, 0, 0, 0] _ (w3.heap.size + 1 + 1) rfl (by decide) HR4.out (by simp) (by decide)).mono ?_
  rw [aw_none]
  intro e w4 h4
  obtain ⟨A4, c4, rfl, _, hb4⟩ := h4.lit (len := 0) rfl
  have hbb : Bl w3 w4 := (((Bl.refl w3).alloc _).alloc _).trans hb4
  have HBk := Lib.hid ((HK3.out.bl hb4).alloc (.cells #[.int .i64 0, .int .i64 0, .int .i64 0, .slice A4 0 c4] 24))
  have HB4 := Lib.hid ((HB3.out.trans hbb).alloc (.cells #[.int .i64 0, .int .i64 0, .int .i64 0, .slice A4 0 c4] 24))
  have HP4 := Lib.hid ((HP3.out.bl (Nat.le_refl _) hbb).alloc hbb.size (.cells #[.int .i64 0, .int .i64 0, .int .i64 0, .slice A4 0 c4] 24))
  have HO4 := Lib.hid ((HO3.out.bl hs3 hbb).alloc (Nat.le_trans hs3 hbb.size) (.cells #[.int .i64 0, .int .i64 0, .int .i64 0, .slice A4 0 c4] 24))
  have hs4 : w3.heap.size ≤ w4.heap.size := hbb.size
  clear h4 hb4 hbb HR4 HK3 HO3 HP3 HB3 HB2 HO2 HB1 HP1
  go_wp2_with fail
  generalize hw5 : w4.alloc (.cells #[.int .i64 0, .int .i64 0, .int .i64 0, .slice A4 0 c4] 24) = w5 at HBk HB4 HP4 HO4 ⊢
  have hs5 : w4.heap.size < w5.heap.size := by rw [← hw5]; simp
  have HW5 := Lib.hid hw5; clear hw5
  have HO5 := Lib.hid ((HO4.out.alloc (by omega) (.cells #[.int .u8 1, .int .u8 1, .int .u8 0, .int .u8 2, .int .u8 0, .int .u8 0, .int .u8 0, .int .u8 2, .int .u8 0, .int .u8 1] 5)).more (show w2.heap.size ≤ w5.heap.size + 1 by omega))
  have HL5 : Hid (Rd (w5.alloc (.cells #[.int .u8 1, .int .u8 1, .int .u8 0, .int .u8 2, .int .u8 0, .int .u8 0, .int .u8 0, .int .u8 2, .int .u8 0, .int .u8 1] 5)) (w5.heap.size + 1) (some ⟨w5.heap.size, 0, none⟩) (bys [1, 1, 0, 2, 0, 0, 0, 2, 0, 1])) := Rd.newly _ _ _ _ _ _ rfl (by omega) rfl
  have HP5 : Hid (∀ W : World, Bl w5 W → Prs W W.heap.size A3 smallPs) := fun W hb => (HP4.out.bl (by omega) hb).more (Nat.le_trans (by omega) hb.size)
  have HKc := HBk
  have tk1 : True := trivial
  have tk2 : True := trivial
  have tk3 : True := trivial
  have tk4 : True := trivial
  have tk5 : True := trivial
  have tk6 : True := trivial
  have tk7 : True := trivial
  have tk8 : True := trivial
  have tk9 : True := trivial
  have tk10 : True := trivial
  have tk11 : True := trivial
  have tk12 : True := trivial
  have tk13 : True := trivial
  have tk14 : True := trivial
  have tk15 : True := trivial
  have tk16 : True := trivial
  have tk17 : True := trivial
  have tk18 : True := trivial
  go_region_held3 (fun w' => w'.cell? ⟨w3.heap.size, 0, none⟩ = some (.int .i64 1) ∧ w'.cell? ⟨w3.heap.size, 1, none⟩ = some (.int .i64 1) ∧ w'.cell? ⟨w3.heap.size, 2, none⟩ = some (.int .i64 0) ∧ w'.cell? ⟨w3.heap.size, 3, none⟩ = some (.slice A3 2 c3)) (first | exact ⟨HKc.out.cell 0, HKc.out.cell 1, HKc.out.cell 2, HKc.out.cell 3⟩ | exact ⟨(HKc.out.alloc _).cell 0, (HKc.out.alloc _).cell 1, (HKc.out.alloc _).cell 2, (HKc.out.alloc _).cell 3⟩) (first
    | (go_at_call 21; have _t := tk1; ((with_reducible refine (same_bl A2 _ 10 10 c2 10 [1, 1, 0, 2, 0, 0, 0, 2, 0, 1] [1, 1, 0, 2, 0, 0, 0, 2, 0, 1] _ (w5.heap.size + 1) rfl rfl (by decide) HO5.out.drew HL5.out.drew).mono ?_); rintro e v1 ⟨rfl, hb1⟩; rw [decide_eq_true rfl]; have HBc := Lib.hid (((Bl.refl w5).alloc _).trans (Bl.undrew hb1)); have HKc := Lib.hid ((HKc.out.alloc _).bl (Bl.undrew hb1)); clear hb1; clear tk1))
    | (go_at_call 22; have _t := tk2; ((with_reducible refine (small_any _).mono ?_); rintro e v2 ⟨Aa, ca, rfl, hp2, hb2⟩; have HPa := Lib.hid hp2; have HBc := Lib.hid (HBc.out.trans hb2); have HKc := Lib.hid ((HKc.out).bl hb2); clear hp2 hb2; clear tk2))
    | (go_at_call 16; have _t := tk3; ((with_reducible refine (rsame_any 1 1 0 1 1 0 A3 Aa 2 2 c3 ca smallPs smallPs _ v2.heap.size rfl rfl (by decide) small_right' (HP5.out v2 HBc.out) HPa.out (Nat.le_refl _)).mono ?_); rintro e v3 ⟨rfl, hb3⟩; rw [decide_eq_true rfl]; have HBc := Lib.hid (HBc.out.trans hb3); have HKc := Lib.hid ((HKc.out).bl hb3); clear hb3; clear tk3))
    | (go_at_call 22; have _t := tk4; ((with_reducible refine (small_any _).mono ?_); rintro e v4 ⟨Ab, cb, rfl, hp4, hb4⟩; have HPb := Lib.hid hp4; have HBc := Lib.hid (HBc.out.trans hb4); have HKc := Lib.hid ((HKc.out).bl hb4); clear hp4 hb4; clear tk4))
    | (go_at_call 13; have _t := tk5; ((with_reducible refine (right_any 1 1 0 Ab 2 cb smallPs _ v4.heap.size rfl (by decide) HPb.out (Nat.le_refl _)).mono ?_); rintro e v5 ⟨rfl, hb5⟩; rw [aw_ok]; have HBc := Lib.hid (HBc.out.trans hb5); have HKc := Lib.hid ((HKc.out).bl hb5); clear hb5; clear tk5))
    | (go_at_call 13; have _t := tk6; ((with_reducible refine (right_any 0 0 0 none 0 0 [] _ 0 rfl (by decide) Prs.nil (Nat.zero_le _)).mono ?_); rintro e v6 ⟨rfl, hb6⟩; rw [aw_zero]; have HBc := Lib.hid (HBc.out.trans hb6); have HKc := Lib.hid ((HKc.out).bl hb6); clear hb6; clear tk6))
    | (go_at_call 22; have _t := tk7; ((with_reducible refine (small_any _).mono ?_); rintro e v7 ⟨Ac, cc, rfl, hp7, hb7⟩; have HPc := Lib.hid hp7; have HBc := Lib.hid (HBc.out.trans hb7); have HKc := Lib.hid ((HKc.out).bl hb7); clear hp7 hb7; clear tk7))
    | (go_at_call 22; have _t := tk8; ((with_reducible refine (small_any _).mono ?_); rintro e v8 ⟨Ad, cd, rfl, hp8, hb8⟩; have HPd := Lib.hid hp8; have HQc := Lib.hid (HPc.out.bl (Nat.le_refl _) hb8); have hzc := (Bl.own hb8).size; have HBc := Lib.hid (HBc.out.trans hb8); have HKc := Lib.hid ((HKc.out).bl hb8); clear hp8 hb8; clear tk8))
    | (go_at_call 15; have _t := tk9; ((with_reducible refine (gsame_any 1 1 0 1 1 0 Ac Ad 2 2 cc cd smallPs smallPs _ v8.heap.size rfl rfl (by decide) small_right' (HQc.out.more hzc) HPd.out (Nat.le_refl _)).mono ?_); rintro e v9 ⟨rfl, hb9⟩; rw [decide_eq_true rfl]; have HBc := Lib.hid (HBc.out.trans hb9); have HKc := Lib.hid ((HKc.out).bl hb9); clear hb9; clear tk9))
    | (go_at_call 22; have _t := tk10; ((with_reducible refine (small_any _).mono ?_); rintro e v10 ⟨Ae, ce, rfl, hp10, hb10⟩; have HPe := Lib.hid hp10; have HBc := Lib.hid (HBc.out.trans hb10); have HKc := Lib.hid ((HKc.out).bl hb10); clear hp10 hb10; clear tk10))
    | (go_at_call 15; have _t := tk11; ((with_reducible refine (gsame_any 1 1 0 0 0 0 Ae none 2 0 ce 0 smallPs [] _ v10.heap.size rfl rfl (by decide) small_right' HPe.out Prs.nil (Nat.le_refl _)).mono ?_); rintro e v11 ⟨rfl, hb11⟩; rw [aw_unlike]; have HBc := Lib.hid (HBc.out.trans hb11); have HKc := Lib.hid ((HKc.out).bl hb11); clear hb11; clear tk11))
    | (go_at_call 22; have _t := tk12; ((with_reducible refine (small_any v11).mono ?_); rintro e v12 ⟨Af, cf, rfl, hp12, hb12⟩; have HPf := Lib.hid hp12; have HBc := Lib.hid (HBc.out.trans hb12); have HKc := Lib.hid (HKc.out.bl hb12); clear hp12 hb12; clear tk12))
    | (go_at_call 22; have _t := tk12; ((with_reducible refine (small_any (v11.alloc (.cells #[.int .i64 0, .int .i64 1] 3))).mono ?_); rintro e v12 ⟨Af, cf, rfl, hp12, hb12⟩; have HPf := Lib.hid hp12; have HLo : Hid (Rd v12 v12.heap.size (some ⟨v11.heap.size, 0, none⟩) (ins [0, 1])) := ((Rd.newly v11 #[.int .i64 0, .int .i64 1] 3 _ v11.heap.size (v11.heap.size + 1) rfl (Nat.lt_succ_self _) rfl).bl (by simp) hb12).here; have HBc := Lib.hid ((HBc.out.alloc _).trans hb12); have HKc := Lib.hid ((HKc.out.alloc _).bl hb12); clear hp12 hb12; clear tk12))
    | (go_at_call 19; have _t := tk13; ((with_reducible refine (of_any 1 1 0 0 Af 2 cf smallPs v12 v12.heap.size rfl (by decide) HPf.out (Nat.le_refl _)).mono ?_); intro e v13 h13; obtain ⟨Ao, co, he13, ho13, hb13⟩ := h13.lit (n := 2) rfl; subst he13; rw [aw_of] at ho13; have HOo := Lib.hid ho13; have HLo := Lib.hid (HLo.out.bl (Nat.le_refl _) hb13).here; have HBc := Lib.hid (HBc.out.trans hb13); have HKc := Lib.hid (HKc.out.bl hb13); clear h13 ho13 hb13; clear tk13))
    | (go_at_call 19; have _t := tk13; ((with_reducible refine (of_any 1 1 0 0 Af 2 cf smallPs v12 v12.heap.size rfl (by decide) HPf.out (Nat.le_refl _)).mono ?_); intro e v13 h13; obtain ⟨Ao, co, he13, ho13, hb13⟩ := h13.lit (n := 2) rfl; subst he13; rw [aw_of] at ho13; have HOo := Lib.hid ho13; have HOn := Lib.hid ((ho13.alloc (Nat.le_refl _) (.cells #[.int .i64 0, .int .i64 1] 3)).more (Nat.le_succ _)); have HLn : Hid (Rd (v13.alloc (.cells #[.int .i64 0, .int .i64 1] 3)) (v13.heap.size + 1) (some ⟨v13.heap.size, 0, none⟩) (ins [0, 1])) := Rd.newly _ _ _ _ _ _ rfl (Nat.lt_succ_self _) rfl; have HBc := Lib.hid (HBc.out.trans hb13); have HKc := Lib.hid (HKc.out.bl hb13); clear h13 ho13 hb13; clear tk13))
    | (go_at_call 19; have _t := tk13; ((with_reducible refine (of_any 1 1 0 0 Af 2 cf smallPs (v12.alloc (.cells #[.int .i64 0, .int .i64 1] 3)) v12.heap.size rfl (by decide) (HPf.out.alloc (Nat.le_refl _) _) (by simp)).mono ?_); intro e v13 h13; obtain ⟨Ao, co, he13, ho13, hb13⟩ := h13.lit (n := 2) rfl; subst he13; rw [aw_of] at ho13; have HOo := Lib.hid ho13; have HLo : Hid (Rd v13 v13.heap.size (some ⟨v12.heap.size, 0, none⟩) (ins [0, 1])) := ((Rd.newly v12 #[.int .i64 0, .int .i64 1] 3 _ v12.heap.size (v12.heap.size + 1) rfl (Nat.lt_succ_self _) rfl).bl (by simp) hb13).here; have HBc := Lib.hid ((HBc.out.alloc _).trans hb13); have HKc := Lib.hid ((HKc.out.alloc _).bl hb13); clear h13 ho13 hb13; clear tk13))
    | (go_at_call 18; have _t := tk14; ((with_reducible refine (isame_bl Ao _ 2 2 co 2 [0, 1] [0, 1] v13 v13.heap.size rfl rfl (by decide) HOo.out HLo.out).mono ?_); rintro e v14 ⟨rfl, hb14⟩; rw [decide_eq_true rfl]; have HBc := Lib.hid (HBc.out.trans hb14); have HKc := Lib.hid (HKc.out.bl hb14); clear hb14; clear tk14))
    | (go_at_call 18; have _t := tk14; ((with_reducible refine (isame_bl Ao _ 2 2 co 2 [0, 1] [0, 1] (v13.alloc (.cells #[.int .i64 0, .int .i64 1] 3)) (v13.heap.size + 1) rfl rfl (by decide) HOn.out HLn.out).mono ?_); rintro e v14 ⟨rfl, hb14⟩; rw [decide_eq_true rfl]; have HBc := Lib.hid ((HBc.out.alloc _).trans hb14); have HKc := Lib.hid ((HKc.out.alloc _).bl hb14); clear hb14; clear tk14))
    | (go_at_call 22; have _t := tk15; ((with_reducible refine (small_any _).mono ?_); rintro e v15 ⟨Ag, cg, rfl, hp15, hb15⟩; have HPg := Lib.hid hp15; have HBc := Lib.hid (HBc.out.trans hb15); have HKc := Lib.hid ((HKc.out).bl hb15); clear hp15 hb15; clear tk15))
    | (go_at_call 17; have _t := tk16; ((with_reducible refine (gclone_any 1 1 0 Ag 2 cg smallPs _ v15.heap.size rfl (by decide) small_right HPg.out (Nat.le_refl _)).mono ?_); intro e v16 h16; obtain ⟨Ah, ch, he16, hp16, hb16⟩ := h16.lit; subst he16; have HPh := Lib.hid hp16; have HBc := Lib.hid (HBc.out.trans hb16); have HKc := Lib.hid ((HKc.out).bl hb16); clear h16 hp16 hb16; clear tk16))
    | (go_at_call 22; have _t := tk17; ((with_reducible refine (small_any _).mono ?_); rintro e v17 ⟨Ai, ci, rfl, hp17, hb17⟩; have HPi := Lib.hid hp17; have HQh := Lib.hid (HPh.out.bl (Nat.le_refl _) hb17); have hzh := (Bl.own hb17).size; have HBc := Lib.hid (HBc.out.trans hb17); have HKc := Lib.hid ((HKc.out).bl hb17); clear hp17 hb17; clear tk17))
    | (go_at_call 16; have _t := tk18; ((with_reducible refine (rsame_any 1 1 0 1 1 0 Ah Ai 2 2 ch ci smallPs smallPs _ v17.heap.size rfl rfl (by decide) small_right' (HQh.out.more hzh) HPi.out (Nat.le_refl _)).mono ?_); rintro e v18 ⟨rfl, hb18⟩; rw [decide_eq_true rfl]; have HBc := Lib.hid (HBc.out.trans hb18); have HKc := Lib.hid ((HKc.out).bl hb18); clear hb18; clear tk18)))
  all_goals
    go_wp2_with fail
    go_ret
    exact ⟨rfl, HB4.out.trans HBc.out⟩
end Go.Proofs.Ytlfobnpkfloolaa
