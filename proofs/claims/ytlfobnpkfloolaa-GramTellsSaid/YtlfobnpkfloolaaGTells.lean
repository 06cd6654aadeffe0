/- GramTells: whether any grammar may be, whether two are the same, a copy, the productions of any nonterminal, the bytes of a grammar, and the grammar of any bytes, are as the document says. -/
import Derived.Test.YtlfobnpkfloolaaGBackM
namespace Go.Proofs.Ytlfobnpkfloolaa
open Go.RowKit

theorem IMakes.lit2 {xs : List Int} {w w' : World} {e : Ending} (h : IMakes xs w e w') : ∃ A c, e = .returned (.slice A xs.length c) ∧ Rd w' w'.heap.size A (ins xs) ∧ Bl w w' := h.lit rfl

set_option maxRecDepth 100000 in
set_option maxHeartbeats 8000000 in
theorem gramTells_any (t n s t' n' s' non : Int) (A A' : Option Addr) (c c' : Nat) (p q : List Gr.Pr) (Ab : Option Addr) (lb cb : Nat) (l : List Nat) (w : World) (hr : Prs w w.heap.size A p) (hmax : p.length ≤ 9223372036854775807) (hr' : Prs w w.heap.size A' q) (hmax' : q.length ≤ 9223372036854775807)
    (hlb : lb = l.length) (hby : ∀ c ∈ l, c < 256) (hrb : Rd w w.heap.size Ab (bys l)) (hcb : lb ≤ cb) (hcm : cb ≤ 9223372036854775807) :
    Calls Try.prog 3 #[.agg #[.int .i64 t, .int .i64 n, .int .i64 s, .slice A p.length c], .agg #[.int .i64 t', .int .i64 n', .int .i64 s', .slice A' q.length c'], .int .i64 non, .slice Ab lb cb] w fun e w' => e = .returned (.bool true) ∧ Bl w w' := by
  have HP : Hid (∀ W : World, Bl w W → Prs W w.heap.size A p) := fun W hb => hr.bl (Nat.le_refl _) hb
  have HQ : Hid (∀ W : World, Bl w W → Prs W w.heap.size A' q) := fun W hb => hr'.bl (Nat.le_refl _) hb
  have HD : Hid (∀ W : World, Bl w W → Rd W w.heap.size Ab (bys l)) := fun W hb => hrb.bl (Nat.le_refl _) hb
  have HLB := Lib.hid hlb
  have HBY := Lib.hid hby
  clear hr hr' hlb hby hrb
  have HB0 : Hid (Bl w ((w.alloc (.cells #[.int .i64 t, .int .i64 n, .int .i64 s, .slice A p.length c] 24)).alloc (.cells #[.int .i64 t', .int .i64 n', .int .i64 s', .slice A' q.length c'] 24))) := ((Bl.refl w).alloc _).alloc _
  have HK0 := Lib.hid ((Bk.new w 24 #[.int .i64 t, .int .i64 n, .int .i64 s, .slice A p.length c]).alloc (.cells #[.int .i64 t', .int .i64 n', .int .i64 s', .slice A' q.length c'] 24))
  have HH0 : Hid (Bk ((w.alloc (.cells #[.int .i64 t, .int .i64 n, .int .i64 s, .slice A p.length c] 24)).alloc (.cells #[.int .i64 t', .int .i64 n', .int .i64 s', .slice A' q.length c'] 24)) (w.heap.size + 1) 24 #[.int .i64 t', .int .i64 n', .int .i64 s', .slice A' q.length c']) := by
    have h := Bk.new (w.alloc (.cells #[.int .i64 t, .int .i64 n, .int .i64 s, .slice A p.length c] 24)) 24 #[.int .i64 t', .int .i64 n', .int .i64 s', .slice A' q.length c']
    rw [World.size_alloc] at h
    exact h
  go_enter Try.func3, Try.ntmps3
  go_wp2_with fail
  refine (gawake_any _).mono ?_
  rintro e w1 ⟨rfl, hb1⟩
  have HB1 := Lib.hid (HB0.out.trans hb1)
  have HK1 := Lib.hid (HK0.out.bl hb1)
  have HH1 := Lib.hid (HH0.out.bl hb1)
  have k0 : w1.cell? ⟨w.heap.size, 0, none⟩ = some (.int .i64 t) := HK1.out.cell 0
  have k1 : w1.cell? ⟨w.heap.size, 1, none⟩ = some (.int .i64 n) := HK1.out.cell 1
  have k2 : w1.cell? ⟨w.heap.size, 2, none⟩ = some (.int .i64 s) := HK1.out.cell 2
  have k3 : w1.cell? ⟨w.heap.size, 3, none⟩ = some (.slice A p.length c) := HK1.out.cell 3
  clear hb1
  go_wp2_with fail
  refine (glarge_any t n s A p.length c p _ w.heap.size rfl hmax (HP.out _ HB1.out) HB1.out.size).mono ?_
  rintro e w2 ⟨rfl, hb2⟩
  have HB2 := Lib.hid (HB1.out.trans hb2)
  have HK2 := Lib.hid (HK1.out.bl hb2)
  have HH2 := Lib.hid (HH1.out.bl hb2)
  clear hb2 k0 k1 k2 k3
  have k0 : w2.cell? ⟨w.heap.size + 1, 0, none⟩ = some (.int .i64 t') := HH2.out.cell 0
  have k1 : w2.cell? ⟨w.heap.size + 1, 1, none⟩ = some (.int .i64 n') := HH2.out.cell 1
  have k2 : w2.cell? ⟨w.heap.size + 1, 2, none⟩ = some (.int .i64 s') := HH2.out.cell 2
  have k3 : w2.cell? ⟨w.heap.size + 1, 3, none⟩ = some (.slice A' q.length c') := HH2.out.cell 3
  cases hlg : lgB p with
  | true =>
    go_wp2_with fail
    go_ret
    exact ⟨rfl, HB2.out⟩
  | false =>
  obtain ⟨hp1, hp2⟩ := lgB_false hlg
  have HPR := Lib.hid hp2
  clear hlg hp2
  go_wp2_with fail
  refine (glarge_any t' n' s' A' q.length c' q _ w.heap.size rfl hmax' (HQ.out _ HB2.out) HB2.out.size).mono ?_
  rintro e w3 ⟨rfl, hb3⟩
  have HB3 := Lib.hid (HB2.out.trans hb3)
  have HK3 := Lib.hid (HK2.out.bl hb3)
  have HH3 := Lib.hid (HH2.out.bl hb3)
  clear hb3 k0 k1 k2 k3
  cases hlg : lgB q with
  | true =>
    go_wp2_with fail
    go_ret
    exact ⟨rfl, HB3.out⟩
  | false =>
  obtain ⟨hq1, hq2⟩ := lgB_false hlg
  clear hlg hq2
  by_cases h3000 : 3000 < lb
  · go_wp2_with fail
    go_ret
    exact ⟨rfl, HB3.out⟩
  have hxlg := bytesOf_len t n s p
  have k0 : w3.cell? ⟨w.heap.size, 0, none⟩ = some (.int .i64 t) := HK3.out.cell 0
  have k1 : w3.cell? ⟨w.heap.size, 1, none⟩ = some (.int .i64 n) := HK3.out.cell 1
  have k2 : w3.cell? ⟨w.heap.size, 2, none⟩ = some (.int .i64 s) := HK3.out.cell 2
  have k3 : w3.cell? ⟨w.heap.size, 3, none⟩ = some (.slice A p.length c) := HK3.out.cell 3
  go_wp2_with fail
  refine (gbytes_any t n s A p.length c p _ w.heap.size rfl (by omega) (HP.out _ HB3.out) HB3.out.size).mono ?_
  rintro e w4 ⟨A4, n4, c4, rfl, hn4, hc4, ho4, hb4⟩
  have HB4 := Lib.hid (HB3.out.trans hb4)
  have HK4 := Lib.hid (HK3.out.bl hb4)
  have HH4 := Lib.hid (HH3.out.bl hb4)
  have HO4 := Lib.hid (Rd.own ho4)
  have hn4b : n4 ≤ 7000 := by omega
  have HN4 := Lib.hid hn4
  clear hn4 ho4 hb4 k0 k1 k2 k3
  have k0 : w4.cell? ⟨w.heap.size, 0, none⟩ = some (.int .i64 t) := HK4.out.cell 0
  have k1 : w4.cell? ⟨w.heap.size, 1, none⟩ = some (.int .i64 n) := HK4.out.cell 1
  have k2 : w4.cell? ⟨w.heap.size, 2, none⟩ = some (.int .i64 s) := HK4.out.cell 2
  have k3 : w4.cell? ⟨w.heap.size, 3, none⟩ = some (.slice A p.length c) := HK4.out.cell 3
  go_wp2_with fail
  refine (rbytes_any t n s A p.length c p _ w.heap.size rfl (by omega) (HP.out _ HB4.out) HB4.out.size).mono ?_
  rintro e w5 ⟨A5, n5, c5, rfl, hn5, hc5, ho5, hb5⟩
  have HB5 := Lib.hid (HB4.out.trans hb5)
  have HK5 := Lib.hid (HK4.out.bl hb5)
  have HH5 := Lib.hid (HH4.out.bl hb5)
  have HX5 := Lib.hid ((HO4.out.bl (Nat.le_refl _) hb5).more (Bl.own hb5).size)
  have HO5 := Lib.hid (Rd.own ho5)
  have HN5 := Lib.hid hn5
  clear hn5 ho5 hb5 k0 k1 k2 k3 HO4
  go_wp2_with fail
  refine (gread_any Ab lb cb l _ w.heap.size HLB.out (by omega) (HD.out _ HB5.out) HB5.out.size HBY.out).mono ?_
  have hsm := (readOf_small l).1
  have hsr : Hid (∀ x ∈ (readOf l).1.prods, x.right.length ≤ 9223372036854775807) := fun x hx => Nat.le_trans ((readOf_small l).2 x hx) (by decide)
  have HRR : Hid (∀ (W : World), Rd W w.heap.size Ab (bys l) → w.heap.size ≤ W.heap.size → Calls Try.prog 12 #[.slice Ab lb cb] W (RdPost (readOf l).1 (readOf l).2 W)) := fun W h1 h2 => rread_any Ab lb cb l W w.heap.size HLB.out hcb hcm h1 h2 HBY.out
  generalize readOf l = R at *
  obtain ⟨⟨rt, rn, rs, rp⟩, rx⟩ := R
  simp only at hsm hsr HRR
  intro e w6 h6
  obtain ⟨A6, c6, rfl, hp6, hb6⟩ := h6.lit rfl
  have HB6 := Lib.hid ((HB5.out.trans hb6).alloc (.cells #[.int .i64 rt, .int .i64 rn, .int .i64 rs, .slice A6 rp.length c6] 24))
  have HK6 := Lib.hid ((HK5.out.bl hb6).alloc (.cells #[.int .i64 rt, .int .i64 rn, .int .i64 rs, .slice A6 rp.length c6] 24))
  have HH6 := Lib.hid ((HH5.out.bl hb6).alloc (.cells #[.int .i64 rt, .int .i64 rn, .int .i64 rs, .slice A6 rp.length c6] 24))
  have HR6 := Lib.hid (Bk.new w6 24 #[.int .i64 rt, .int .i64 rn, .int .i64 rs, .slice A6 rp.length c6])
  have HP6 := Lib.hid (hp6.alloc (Nat.le_refl _) (.cells #[.int .i64 rt, .int .i64 rn, .int .i64 rs, .slice A6 rp.length c6] 24))
  have HX6 := Lib.hid ((HX5.out.bl (Nat.le_refl _) hb6).alloc (Bl.own hb6).size (.cells #[.int .i64 rt, .int .i64 rn, .int .i64 rs, .slice A6 rp.length c6] 24))
  have HY6 := Lib.hid ((HO5.out.bl (Nat.le_refl _) hb6).alloc (Bl.own hb6).size (.cells #[.int .i64 rt, .int .i64 rn, .int .i64 rs, .slice A6 rp.length c6] 24))
  have hs6 : w5.heap.size ≤ w6.heap.size := (Bl.own hb6).size
  clear h6 hp6 hb6 HX5 HO5
  go_wp2_with fail
  refine (HRR.out _ (HD.out _ HB6.out) HB6.out.size).mono ?_
  intro e w7 h7
  obtain ⟨A7, c7, rfl, hp7, hb7⟩ := h7.lit rfl
  have HBw := Lib.hid ((HB6.out.trans hb7).alloc (.cells #[.int .i64 rt, .int .i64 rn, .int .i64 rs, .slice A7 rp.length c7] 24))
  have HKc := Lib.hid ((HK6.out.bl hb7).alloc (.cells #[.int .i64 rt, .int .i64 rn, .int .i64 rs, .slice A7 rp.length c7] 24))
  have HHc := Lib.hid ((HH6.out.bl hb7).alloc (.cells #[.int .i64 rt, .int .i64 rn, .int .i64 rs, .slice A7 rp.length c7] 24))
  have HRc := Lib.hid ((HR6.out.bl hb7).alloc (.cells #[.int .i64 rt, .int .i64 rn, .int .i64 rs, .slice A7 rp.length c7] 24))
  have HSc := Lib.hid (Bk.new w7 24 #[.int .i64 rt, .int .i64 rn, .int .i64 rs, .slice A7 rp.length c7])
  have hs7 : w6.heap.size < w7.heap.size := by have := (Bl.own hb7).size; simp at this; omega
  have hq6 := (HP6.out.bl (by simp) hb7).alloc (Nat.le_of_lt hs7) (.cells #[.int .i64 rt, .int .i64 rn, .int .i64 rs, .slice A7 rp.length c7] 24)
  have hq7 := hp7.alloc (Nat.le_refl _) (.cells #[.int .i64 rt, .int .i64 rn, .int .i64 rs, .slice A7 rp.length c7] 24)
  have hx7 := (HX6.out.bl (by simp; omega) hb7).alloc (by omega) (.cells #[.int .i64 rt, .int .i64 rn, .int .i64 rs, .slice A7 rp.length c7] 24)
  have hy7 := (HY6.out.bl (by simp; omega) hb7).alloc (by omega) (.cells #[.int .i64 rt, .int .i64 rn, .int .i64 rs, .slice A7 rp.length c7] 24)
  clear h7 hp7 hb7
  go_wp2_with fail
  generalize hw8 : w7.alloc (.cells #[.int .i64 rt, .int .i64 rn, .int .i64 rs, .slice A7 rp.length c7] 24) = w8 at HBw HKc HHc HRc HSc hq6 hq7 hx7 hy7 ⊢
  have hs8 : w7.heap.size < w8.heap.size := by rw [← hw8]; simp
  have HW8 := Lib.hid hw8; clear hw8
  have HPk : Hid (∀ W : World, Bl w8 W → Prs W W.heap.size A6 rp) := fun W hb => (hq6.bl (by omega) hb).more (Nat.le_trans (by omega) hb.size)
  have HPl : Hid (∀ W : World, Bl w8 W → Prs W W.heap.size A7 rp) := fun W hb => (hq7.bl (by omega) hb).more (Nat.le_trans (by omega) hb.size)
  have HXx : Hid (∀ W : World, Bl w8 W → Rd W W.heap.size A4 (bys (bytesOf ⟨t, n, s, p⟩))) := fun W hb => (hx7.bl (by omega) hb).more (Nat.le_trans (by omega) hb.size)
  have HYy : Hid (∀ W : World, Bl w8 W → Rd W W.heap.size A5 (bys (bytesOf ⟨t, n, s, p⟩))) := fun W hb => (hy7.bl (by omega) hb).more (Nat.le_trans (by omega) hb.size)
  have HPg : Hid (∀ W : World, Bl w8 W → Prs W W.heap.size A p) := fun W hb => (HP.out W (HBw.out.trans hb)).more (HBw.out.trans hb).size
  have HPh : Hid (∀ W : World, Bl w8 W → Prs W W.heap.size A' q) := fun W hb => (HQ.out W (HBw.out.trans hb)).more (HBw.out.trans hb).size
  have HBc := Lib.hid (Bl.refl w8)
  have HMp : Hid (∀ x ∈ p, x.right.length ≤ 9223372036854775807) := fun x hx => Nat.le_trans (HPR.out x hx) (by decide)
  have HMq : Hid (∀ x ∈ p, x.right.length ≤ 1000000000) := fun x hx => Nat.le_trans (HPR.out x hx) (by decide)
  have hol : (ns (ofK p non p.length)).length ≤ 100 := by rw [ns_len]; have := ofK_len p non p.length; omega
  have HOok : Hid (okB ⟨t, n, s, p⟩ = true ∨ okB ⟨t, n, s, p⟩ = false) := by unfold Hid; cases okB ⟨t, n, s, p⟩ <;> simp
  clear hq6 hq7 hx7 hy7 HB0 HB1 HB2 HB3 HB4 HB5 HB6 HK0 HK1 HK2 HK3 HK4 HK5 HK6 HH0 HH1 HH2 HH3 HH4 HH5 HH6 HR6 HP6 HX6 HY6 HRR
  have tk1 : True := trivial
  have tk2 : True := trivial
  have tk3 : True := trivial
  have tk4 : True := trivial
  have tk5 : True := trivial
  have tk6 : True := trivial
  have tk7 : True := trivial
  have tk8 : True := trivial
  have tk9 : True := trivial
  have tk10 : True := trivial
  have tk11 : True := trivial
  go_region_held3 (fun w' => w'.cell? ⟨w.heap.size, 0, none⟩ = some (.int .i64 t) ∧ w'.cell? ⟨w.heap.size, 1, none⟩ = some (.int .i64 n) ∧ w'.cell? ⟨w.heap.size, 2, none⟩ = some (.int .i64 s) ∧ w'.cell? ⟨w.heap.size, 3, none⟩ = some (.slice A p.length c) ∧ w'.cell? ⟨w.heap.size + 1, 0, none⟩ = some (.int .i64 t') ∧ w'.cell? ⟨w.heap.size + 1, 1, none⟩ = some (.int .i64 n') ∧ w'.cell? ⟨w.heap.size + 1, 2, none⟩ = some (.int .i64 s') ∧ w'.cell? ⟨w.heap.size + 1, 3, none⟩ = some (.slice A' q.length c') ∧ w'.cell? ⟨w6.heap.size, 0, none⟩ = some (.int .i64 rt) ∧ w'.cell? ⟨w6.heap.size, 1, none⟩ = some (.int .i64 rn) ∧ w'.cell? ⟨w6.heap.size, 2, none⟩ = some (.int .i64 rs) ∧ w'.cell? ⟨w6.heap.size, 3, none⟩ = some (.slice A6 rp.length c6) ∧ w'.cell? ⟨w7.heap.size, 0, none⟩ = some (.int .i64 rt) ∧ w'.cell? ⟨w7.heap.size, 1, none⟩ = some (.int .i64 rn) ∧ w'.cell? ⟨w7.heap.size, 2, none⟩ = some (.int .i64 rs) ∧ w'.cell? ⟨w7.heap.size, 3, none⟩ = some (.slice A7 rp.length c7)) (exact ⟨HKc.out.cell 0, HKc.out.cell 1, HKc.out.cell 2, HKc.out.cell 3, HHc.out.cell 0, HHc.out.cell 1, HHc.out.cell 2, HHc.out.cell 3, HRc.out.cell 0, HRc.out.cell 1, HRc.out.cell 2, HRc.out.cell 3, HSc.out.cell 0, HSc.out.cell 1, HSc.out.cell 2, HSc.out.cell 3⟩) (first
    | (go_at_call 13; have _t := tk1; ((with_reducible refine (right_any t n s A p.length c p _ w8.heap.size rfl hmax (HPg.out w8 (Bl.refl w8)).drew (Nat.le_refl _)).mono ?_); rintro e v1 ⟨rfl, hb1⟩; have HKc := Lib.hid (HKc.out.bl (Bl.undrew hb1)); have HHc := Lib.hid (HHc.out.bl (Bl.undrew hb1)); have HRc := Lib.hid (HRc.out.bl (Bl.undrew hb1)); have HSc := Lib.hid (HSc.out.bl (Bl.undrew hb1)); have HBc := Lib.hid (HBc.out.trans (Bl.undrew hb1)); clear tk1 hb1))
    | (go_at_call 14; have _t := tk2; ((with_reducible refine (rright_any t n s A p.length c p _ v1.heap.size rfl hmax (HPg.out v1 HBc.out) (Nat.le_refl _)).mono ?_); rintro e v2 ⟨rfl, hb2⟩; have HKc := Lib.hid (HKc.out.bl hb2); have HHc := Lib.hid (HHc.out.bl hb2); have HRc := Lib.hid (HRc.out.bl hb2); have HSc := Lib.hid (HSc.out.bl hb2); have HBc := Lib.hid (HBc.out.trans hb2); clear tk2 hb2))
    | (go_at_call 15; have _t := tk3; ((with_reducible refine (gsame_any t n s t' n' s' A A' p.length q.length c c' p q _ v2.heap.size rfl rfl hmax HMp.out (HPg.out v2 HBc.out) (HPh.out v2 HBc.out) (Nat.le_refl _)).mono ?_); rintro e v3 ⟨rfl, hb3⟩; have HKc := Lib.hid (HKc.out.bl hb3); have HHc := Lib.hid (HHc.out.bl hb3); have HRc := Lib.hid (HRc.out.bl hb3); have HSc := Lib.hid (HSc.out.bl hb3); have HBc := Lib.hid (HBc.out.trans hb3); clear tk3 hb3))
    | (go_at_call 16; have _t := tk4; ((with_reducible refine (rsame_any t n s t' n' s' A A' p.length q.length c c' p q _ v3.heap.size rfl rfl hmax HMp.out (HPg.out v3 HBc.out) (HPh.out v3 HBc.out) (Nat.le_refl _)).mono ?_); rintro e v4 ⟨rfl, hb4⟩; have HKc := Lib.hid (HKc.out.bl hb4); have HHc := Lib.hid (HHc.out.bl hb4); have HRc := Lib.hid (HRc.out.bl hb4); have HSc := Lib.hid (HSc.out.bl hb4); have HBc := Lib.hid (HBc.out.trans hb4); clear tk4 hb4))
    | (go_at_call 17; have _t := tk5; ((with_reducible refine (gclone_any t n s A p.length c p _ v4.heap.size rfl (by omega) HMq.out (HPg.out v4 HBc.out) (Nat.le_refl _)).mono ?_); intro e v5 h5; obtain ⟨Ac, cc, he5, hp5, hb5⟩ := h5.lit; subst he5; have HPc := Lib.hid hp5; have HKc := Lib.hid (HKc.out.bl hb5); have HHc := Lib.hid (HHc.out.bl hb5); have HRc := Lib.hid (HRc.out.bl hb5); have HSc := Lib.hid (HSc.out.bl hb5); have HBc := Lib.hid (HBc.out.trans hb5); clear tk5 h5 hp5 hb5))
    | (go_at_call 16; have _t := tk6; ((with_reducible refine (rsame_any t n s t n s Ac A p.length p.length cc c p p _ v5.heap.size rfl rfl hmax HMp.out HPc.out (HPg.out v5 HBc.out) (Nat.le_refl _)).mono ?_); rintro e v6 ⟨rfl, hb6⟩; rw [decide_eq_true rfl]; have HKc := Lib.hid (HKc.out.bl hb6); have HHc := Lib.hid (HHc.out.bl hb6); have HRc := Lib.hid (HRc.out.bl hb6); have HSc := Lib.hid (HSc.out.bl hb6); have HBc := Lib.hid (HBc.out.trans hb6); clear tk6 hb6))
    | (go_at_call 19; have _t := tk7; ((with_reducible refine (of_any t n s non A p.length c p _ v6.heap.size rfl (by omega) (HPg.out v6 HBc.out) (Nat.le_refl _)).mono ?_); intro e v7 h7; obtain ⟨Ao, co, he7, ho7, hb7⟩ := h7.lit2; subst he7; have HOo := Lib.hid ho7; have HKc := Lib.hid (HKc.out.bl hb7); have HHc := Lib.hid (HHc.out.bl hb7); have HRc := Lib.hid (HRc.out.bl hb7); have HSc := Lib.hid (HSc.out.bl hb7); have HBc := Lib.hid (HBc.out.trans hb7); clear tk7 h7 ho7 hb7))
    | (go_at_call 20; have _t := tk8; ((with_reducible refine (rof_any t n s non A p.length c p _ v7.heap.size rfl (by omega) (HPg.out v7 HBc.out) (Nat.le_refl _)).mono ?_); intro e v8 h8; obtain ⟨Aq, cq, he8, ho8, hb8⟩ := h8.lit2; subst he8; have HOq := Lib.hid ho8; have HOo := Lib.hid (HOo.out.bl (Nat.le_refl _) hb8).here; have HKc := Lib.hid (HKc.out.bl hb8); have HHc := Lib.hid (HHc.out.bl hb8); have HRc := Lib.hid (HRc.out.bl hb8); have HSc := Lib.hid (HSc.out.bl hb8); have HBc := Lib.hid (HBc.out.trans hb8); clear tk8 h8 ho8 hb8))
    | (go_at_call 18; have _t := tk9; ((with_reducible refine (isame_bl Ao Aq _ _ co cq (ns (ofK p non p.length)) (ns (ofK p non p.length)) _ v8.heap.size rfl rfl (by omega) HOo.out HOq.out).mono ?_); rintro e v9 ⟨rfl, hb9⟩; rw [decide_eq_true rfl]; have HKc := Lib.hid (HKc.out.bl hb9); have HHc := Lib.hid (HHc.out.bl hb9); have HRc := Lib.hid (HRc.out.bl hb9); have HSc := Lib.hid (HSc.out.bl hb9); have HBc := Lib.hid (HBc.out.trans hb9); clear tk9 hb9))
    | (go_at_call 21; have _t := tk10; ((with_reducible refine (same_bl A4 A5 n4 n5 c4 c5 (bytesOf ⟨t, n, s, p⟩) (bytesOf ⟨t, n, s, p⟩) _ v9.heap.size HN4.out HN5.out (by omega) (HXx.out v9 HBc.out) (HYy.out v9 HBc.out)).mono ?_); rintro e v10 ⟨rfl, hb10⟩; rw [decide_eq_true rfl]; have HKc := Lib.hid (HKc.out.bl hb10); have HHc := Lib.hid (HHc.out.bl hb10); have HRc := Lib.hid (HRc.out.bl hb10); have HSc := Lib.hid (HSc.out.bl hb10); have HBc := Lib.hid (HBc.out.trans hb10); clear tk10 hb10))
    | (go_at_call 16; have _t := tk11; ((with_reducible refine (rsame_any rt rn rs rt rn rs A6 A7 rp.length rp.length c6 c7 rp rp _ v10.heap.size rfl rfl (by omega) hsr.out (HPk.out v10 HBc.out) (HPl.out v10 HBc.out) (Nat.le_refl _)).mono ?_); rintro e v11 ⟨rfl, hb11⟩; rw [decide_eq_true rfl]; have HKc := Lib.hid (HKc.out.bl hb11); have HHc := Lib.hid (HHc.out.bl hb11); have HRc := Lib.hid (HRc.out.bl hb11); have HSc := Lib.hid (HSc.out.bl hb11); have HBc := Lib.hid (HBc.out.trans hb11); clear tk11 hb11)))
  go_wp2_with fail
  go_ret
  exact ⟨rfl, HBw.out.trans HBc.out⟩
end Go.Proofs.Ytlfobnpkfloolaa
