/- GramBack: grammars come back from their bytes, and bytes from their grammars; unlike grammars have unlike bytes. -/
import Derived.Test.YtlfobnpkfloolaaGBackM
namespace Go.Proofs.Ytlfobnpkfloolaa
open Go.RowKit

set_option maxRecDepth 100000 in
set_option maxHeartbeats 8000000 in
theorem gramBack_any (t n s t' n' s' : Int) (A A' : Option Addr) (c c' : Nat) (p q : List Gr.Pr) (Ab : Option Addr) (lb cb : Nat) (l : List Nat) (w : World) (hr : Prs w w.heap.size A p) (hmax : p.length ≤ 9223372036854775807) (hr' : Prs w w.heap.size A' q) (hmax' : q.length ≤ 9223372036854775807)
    (hlb : lb = l.length) (hby : ∀ c ∈ l, c < 256) (hrb : Rd w w.heap.size Ab (bys l)) :
    Calls Try.prog 4 #[.agg #[.int .i64 t, .int .i64 n, .int .i64 s, .slice A p.length c], .agg #[.int .i64 t', .int .i64 n', .int .i64 s', .slice A' q.length c'], .slice Ab lb cb] w fun e w' => e = .returned (.bool true) ∧ Bl w w' := by
  have HP : Hid (∀ W : World, Bl w W → Prs W w.heap.size A p) := fun W hb => hr.bl (Nat.le_refl _) hb
  have HQ : Hid (∀ W : World, Bl w W → Prs W w.heap.size A' q) := fun W hb => hr'.bl (Nat.le_refl _) hb
  have HD : Hid (∀ W : World, Bl w W → Rd W w.heap.size Ab (bys l)) := fun W hb => hrb.bl (Nat.le_refl _) hb
  have HLB := Lib.hid hlb
  have HBY := Lib.hid hby
  clear hr hr' hlb hby hrb
  have HB0 : Hid (Bl w ((w.alloc (.cells #[.int .i64 t, .int .i64 n, .int .i64 s, .slice A p.length c] 24)).alloc (.cells #[.int .i64 t', .int .i64 n', .int .i64 s', .slice A' q.length c'] 24))) := ((Bl.refl w).alloc _).alloc _
  have HK0 := Lib.hid ((Bk.new w 24 #[.int .i64 t, .int .i64 n, .int .i64 s, .slice A p.length c]).alloc (.cells #[.int .i64 t', .int .i64 n', .int .i64 s', .slice A' q.length c'] 24))
  have HH0 : Hid (Bk ((w.alloc (.cells #[.int .i64 t, .int .i64 n, .int .i64 s, .slice A p.length c] 24)).alloc (.cells #[.int .i64 t', .int .i64 n', .int .i64 s', .slice A' q.length c'] 24)) (w.heap.size + 1) 24 #[.int .i64 t', .int .i64 n', .int .i64 s', .slice A' q.length c']) := by
    have h := Bk.new (w.alloc (.cells #[.int .i64 t, .int .i64 n, .int .i64 s, .slice A p.length c] 24)) 24 #[.int .i64 t', .int .i64 n', .int .i64 s', .slice A' q.length c']
    rw [World.size_alloc] at h
    exact h
  go_enter Try.func4, Try.ntmps4
  go_wp2_with fail
  refine (gawake_any _).mono ?_
  rintro e w1 ⟨rfl, hb1⟩
  have HB1 := Lib.hid (HB0.out.trans hb1)
  have HK1 := Lib.hid (HK0.out.bl hb1)
  have HH1 := Lib.hid (HH0.out.bl hb1)
  have k0 : w1.cell? ⟨w.heap.size, 0, none⟩ = some (.int .i64 t) := HK1.out.cell 0
  have k1 : w1.cell? ⟨w.heap.size, 1, none⟩ = some (.int .i64 n) := HK1.out.cell 1
  have k2 : w1.cell? ⟨w.heap.size, 2, none⟩ = some (.int .i64 s) := HK1.out.cell 2
  have k3 : w1.cell? ⟨w.heap.size, 3, none⟩ = some (.slice A p.length c) := HK1.out.cell 3
  clear hb1
  go_wp2_with fail
  refine (glarge_any t n s A p.length c p _ w.heap.size rfl hmax (HP.out _ HB1.out) HB1.out.size).mono ?_
  rintro e w2 ⟨rfl, hb2⟩
  have HB2 := Lib.hid (HB1.out.trans hb2)
  have HK2 := Lib.hid (HK1.out.bl hb2)
  have HH2 := Lib.hid (HH1.out.bl hb2)
  clear hb2 k0 k1 k2 k3
  have k0 : w2.cell? ⟨w.heap.size + 1, 0, none⟩ = some (.int .i64 t') := HH2.out.cell 0
  have k1 : w2.cell? ⟨w.heap.size + 1, 1, none⟩ = some (.int .i64 n') := HH2.out.cell 1
  have k2 : w2.cell? ⟨w.heap.size + 1, 2, none⟩ = some (.int .i64 s') := HH2.out.cell 2
  have k3 : w2.cell? ⟨w.heap.size + 1, 3, none⟩ = some (.slice A' q.length c') := HH2.out.cell 3
  cases hlg : lgB p with
  | true =>
    go_wp2_with fail
    go_ret
    exact ⟨rfl, HB2.out⟩
  | false =>
  obtain ⟨hp1, hp2⟩ := lgB_false hlg
  have HPR := Lib.hid hp2
  clear hlg hp2
  go_wp2_with fail
  refine (glarge_any t' n' s' A' q.length c' q _ w.heap.size rfl hmax' (HQ.out _ HB2.out) HB2.out.size).mono ?_
  rintro e w3 ⟨rfl, hb3⟩
  have HB3 := Lib.hid (HB2.out.trans hb3)
  have HK3 := Lib.hid (HK2.out.bl hb3)
  have HH3 := Lib.hid (HH2.out.bl hb3)
  clear hb3 k0 k1 k2 k3
  cases hlg : lgB q with
  | true =>
    go_wp2_with fail
    go_ret
    exact ⟨rfl, HB3.out⟩
  | false =>
  obtain ⟨hq1, hq2⟩ := lgB_false hlg
  have HQR := Lib.hid hq2
  clear hlg hq2
  by_cases h3000 : 3000 < lb
  · go_wp2_with fail
    go_ret
    exact ⟨rfl, HB3.out⟩
  have hxlg := bytesOf_len t n s p
  have hxlh := bytesOf_len t' n' s' q
  go_wp2_with fail
  refine (gread_any Ab lb cb l _ w.heap.size HLB.out (by omega) (HD.out _ HB3.out) HB3.out.size HBY.out).mono ?_
  have HInv : Hid ((readOf l).2 = 0 → okB (readOf l).1 = true ∧ bytesOf (readOf l).1 = l ∧ errOf (readOf l).1 = 0) := readOf_inv HBY.out
  have hsm := (readOf_small l).1
  generalize readOf l = R at *
  obtain ⟨⟨rt, rn, rs, rp⟩, rx⟩ := R
  simp only at HInv hsm
  intro e w4 h4
  obtain ⟨Ar, cr, rfl, hpr, hb4⟩ := h4.lit rfl
  have HB4 := Lib.hid ((HB3.out.trans hb4).alloc (.cells #[.int .i64 rt, .int .i64 rn, .int .i64 rs, .slice Ar rp.length cr] 24))
  have HK4 := Lib.hid ((HK3.out.bl hb4).alloc (.cells #[.int .i64 rt, .int .i64 rn, .int .i64 rs, .slice Ar rp.length cr] 24))
  have HH4 := Lib.hid ((HH3.out.bl hb4).alloc (.cells #[.int .i64 rt, .int .i64 rn, .int .i64 rs, .slice Ar rp.length cr] 24))
  have HR4 := Lib.hid (Bk.new w4 24 #[.int .i64 rt, .int .i64 rn, .int .i64 rs, .slice Ar rp.length cr])
  have HP4 := Lib.hid (hpr.alloc (Nat.le_refl _) (.cells #[.int .i64 rt, .int .i64 rn, .int .i64 rs, .slice Ar rp.length cr] 24))
  clear h4 hpr hb4
  have hcase : rx = 0 ∨ rx ≠ 0 := by omega
  rcases hcase with hz | hz
  case' inl =>
    subst hz
    obtain ⟨i1, i2, i3⟩ := HInv.out rfl
    have I1 := Lib.hid i1; have I2 := Lib.hid i2; have I3 := Lib.hid i3
    clear i1 i2 i3
    go_wp2_with fail
    refine (gbytes_any rt rn rs Ar rp.length cr rp _ w4.heap.size rfl (by omega) HP4.out (by simp)).mono ?_
    intro e w5 h5
    obtain ⟨A5, n5, c5, rfl, hn5, hc5, ho5, hb5⟩ := h5.lit I3.out I2.out
    have HB5 := Lib.hid (HB4.out.trans hb5)
    have HK5 := Lib.hid (HK4.out.bl hb5)
    have HH5 := Lib.hid (HH4.out.bl hb5)
    have HR5 := Lib.hid (HR4.out.bl hb5)
    have HP5 := Lib.hid (HP4.out.bl (by simp) hb5)
    have HO5 := Lib.hid (Rd.own ho5)
    have HN5 := Lib.hid hn5
    have hs5 : w4.heap.size < w5.heap.size := HR5.out.lt
    have hn5b : n5 ≤ 3000 := by have := HLB.out; omega
    clear h5 hn5 hc5 ho5 hb5
    go_wp2_with fail
    refine (same_bl A5 Ab n5 lb c5 cb l l _ w5.heap.size HN5.out HLB.out (by omega) HO5.out ((HD.out _ HB5.out).more HB5.out.size)).mono ?_
    rintro e w6 ⟨rfl, hb6⟩
    rw [decide_eq_true rfl]
    have HB6 := Lib.hid (HB5.out.trans hb6)
    have HK6 := Lib.hid (HK5.out.bl hb6)
    have HH6 := Lib.hid (HH5.out.bl hb6)
    have HR6 := Lib.hid (HR5.out.bl hb6)
    have HP6 := Lib.hid (HP5.out.bl (by omega) hb6)
    have hs6 : w4.heap.size ≤ w6.heap.size := Nat.le_trans (Nat.le_of_lt hs5) (Bl.own hb6).size
    have k0 : w6.cell? ⟨w4.heap.size, 0, none⟩ = some (.int .i64 rt) := HR6.out.cell 0
    have k1 : w6.cell? ⟨w4.heap.size, 1, none⟩ = some (.int .i64 rn) := HR6.out.cell 1
    have k2 : w6.cell? ⟨w4.heap.size, 2, none⟩ = some (.int .i64 rs) := HR6.out.cell 2
    have k3 : w6.cell? ⟨w4.heap.size, 3, none⟩ = some (.slice Ar rp.length cr) := HR6.out.cell 3
    clear hb6
    go_wp2_with fail
    refine (right_any rt rn rs Ar rp.length cr rp _ w4.heap.size rfl (by omega) HP6.out hs6).mono ?_
    rintro e wt ⟨rfl, hb7⟩
    rw [I1.out]
    have HBt := Lib.hid (HB6.out.trans hb7)
    have HKt := Lib.hid (HK6.out.bl hb7)
    have HHt := Lib.hid (HH6.out.bl hb7)
    clear hb7 k0 k1 k2 k3
    have k0 : wt.cell? ⟨w.heap.size, 0, none⟩ = some (.int .i64 t) := HKt.out.cell 0
    have k1 : wt.cell? ⟨w.heap.size, 1, none⟩ = some (.int .i64 n) := HKt.out.cell 1
    have k2 : wt.cell? ⟨w.heap.size, 2, none⟩ = some (.int .i64 s) := HKt.out.cell 2
    have k3 : wt.cell? ⟨w.heap.size, 3, none⟩ = some (.slice A p.length c) := HKt.out.cell 3
    go_wp2_with fail
    clear k0 k1 k2 k3 HB5 HK5 HH5 HR5 HP5 HO5 HN5 HB6 HK6 HH6 HR6 HP6 I1 I2 I3 HB4 HK4 HH4 HR4 HP4 HInv
  case' inr =>
    have hz' : (rx == 0) = false := by simpa using hz
    clear hz
    have k0 : (w4.alloc (.cells #[.int .i64 rt, .int .i64 rn, .int .i64 rs, .slice Ar rp.length cr] 24)).cell? ⟨w.heap.size, 0, none⟩ = some (.int .i64 t) := HK4.out.cell 0
    have k1 : (w4.alloc (.cells #[.int .i64 rt, .int .i64 rn, .int .i64 rs, .slice Ar rp.length cr] 24)).cell? ⟨w.heap.size, 1, none⟩ = some (.int .i64 n) := HK4.out.cell 1
    have k2 : (w4.alloc (.cells #[.int .i64 rt, .int .i64 rn, .int .i64 rs, .slice Ar rp.length cr] 24)).cell? ⟨w.heap.size, 2, none⟩ = some (.int .i64 s) := HK4.out.cell 2
    have k3 : (w4.alloc (.cells #[.int .i64 rt, .int .i64 rn, .int .i64 rs, .slice Ar rp.length cr] 24)).cell? ⟨w.heap.size, 3, none⟩ = some (.slice A p.length c) := HK4.out.cell 3
    go_wp2_with fail
    clear k0 k1 k2 k3
    generalize hwt : w4.alloc (.cells #[.int .i64 rt, .int .i64 rn, .int .i64 rs, .slice Ar rp.length cr] 24) = wt at HB4 HK4 HH4 HR4 HP4 ⊢
    have HWT := Lib.hid hwt; clear hwt
    have HBt := HB4
    have HKt := HK4
    have HHt := HH4
    clear HB4 HK4 HH4 HR4 HP4 HInv
  all_goals
    refine (gbytes_any t n s A p.length c p _ w.heap.size rfl (by omega) (HP.out _ HBt.out) HBt.out.size).mono ?_
    rintro e w8 ⟨A8, n8, c8, rfl, hn8, hc8, ho8, hb8⟩
    have HB8 := Lib.hid (HBt.out.trans hb8)
    have HK8 := Lib.hid (HKt.out.bl hb8)
    have HH8 := Lib.hid (HHt.out.bl hb8)
    have HO8 := Lib.hid (Rd.own ho8)
    have hn8b : n8 ≤ 7000 := by omega
    have HN8 := Lib.hid hn8
    clear hn8 ho8 hb8
    have k0 : w8.cell? ⟨w.heap.size + 1, 0, none⟩ = some (.int .i64 t') := HH8.out.cell 0
    have k1 : w8.cell? ⟨w.heap.size + 1, 1, none⟩ = some (.int .i64 n') := HH8.out.cell 1
    have k2 : w8.cell? ⟨w.heap.size + 1, 2, none⟩ = some (.int .i64 s') := HH8.out.cell 2
    have k3 : w8.cell? ⟨w.heap.size + 1, 3, none⟩ = some (.slice A' q.length c') := HH8.out.cell 3
    go_wp2_with fail
    refine (gbytes_any t' n' s' A' q.length c' q _ w.heap.size rfl (by omega) (HQ.out _ HB8.out) HB8.out.size).mono ?_
    rintro e w9 ⟨A9, n9, c9, rfl, hn9, hc9, ho9, hb9⟩
    have HB9 := Lib.hid (HB8.out.trans hb9)
    have HK9 := Lib.hid (HK8.out.bl hb9)
    have HH9 := Lib.hid (HH8.out.bl hb9)
    have HX9 := Lib.hid ((HO8.out.bl (Nat.le_refl _) hb9).more (Bl.own hb9).size)
    have HO9 := Lib.hid (Rd.own ho9)
    have hn9b : n9 ≤ 7000 := by omega
    have HN9 := Lib.hid hn9
    clear hn9 ho9 hb9 k0 k1 k2 k3 HO8
    have k0 : w9.cell? ⟨w.heap.size, 0, none⟩ = some (.int .i64 t) := HK9.out.cell 0
    have k1 : w9.cell? ⟨w.heap.size, 1, none⟩ = some (.int .i64 n) := HK9.out.cell 1
    have k2 : w9.cell? ⟨w.heap.size, 2, none⟩ = some (.int .i64 s) := HK9.out.cell 2
    have k3 : w9.cell? ⟨w.heap.size, 3, none⟩ = some (.slice A p.length c) := HK9.out.cell 3
    cases hok : okB ⟨t, n, s, p⟩ with
    | false =>
      obtain rfl : n8 = 0 := by have := HN8.out; rw [bytesOf_no hok] at this; exact this
      rw [errOf_no hok]
      have HOK := Lib.hid hok; clear hok
      go_wp2_with fail
      refine (right_any t n s A p.length c p _ w.heap.size rfl (by omega) (HP.out _ HB9.out) HB9.out.size).mono ?_
      rintro e w10 ⟨rfl, hb10⟩
      rw [HOK.out]
      have HB10 := Lib.hid (HB9.out.trans hb10); clear hb10
      go_wp2_with fail
      go_ret
      exact ⟨rfl, HB10.out⟩
    | true =>
      rw [errOf_ok hok]
      have HOK := Lib.hid hok
      have HBo := Lib.hid (bytesOf_ok hok)
      have HBk := Lib.hid (readOf_back hok)
      have HByt := Lib.hid (gmBytes_byte t n s p hok)
      clear hok k0 k1 k2 k3
      go_wp2_with fail
      refine (gread_any A8 n8 c8 (Gr.gmBytes ⟨t, n, s, p⟩) _ w9.heap.size (by rw [← HBo.out]; exact HN8.out) (by omega) (by rw [← HBo.out]; exact HX9.out) (Nat.le_refl _) HByt.out).mono ?_
      rw [HBk.out]
      intro e w10 h10
      obtain ⟨A10, c10, rfl, hp10, hb10⟩ := h10.lit rfl
      have HBc := Lib.hid ((HB9.out.trans hb10).alloc (.cells #[.int .i64 t, .int .i64 n, .int .i64 s, .slice A10 p.length c10] 24))
      have HKc := Lib.hid ((HK9.out.bl hb10).alloc (.cells #[.int .i64 t, .int .i64 n, .int .i64 s, .slice A10 p.length c10] 24))
      have HHc := Lib.hid ((HH9.out.bl hb10).alloc (.cells #[.int .i64 t, .int .i64 n, .int .i64 s, .slice A10 p.length c10] 24))
      have HRc := Lib.hid (Bk.new w10 24 #[.int .i64 t, .int .i64 n, .int .i64 s, .slice A10 p.length c10])
      have hp11 := hp10.alloc (Nat.le_refl _) (.cells #[.int .i64 t, .int .i64 n, .int .i64 s, .slice A10 p.length c10] 24)
      have hx11 := ((HX9.out.bl (Nat.le_refl _) hb10).alloc (Bl.own hb10).size (.cells #[.int .i64 t, .int .i64 n, .int .i64 s, .slice A10 p.length c10] 24))
      have hy11 := ((HO9.out.bl (Nat.le_refl _) hb10).alloc (Bl.own hb10).size (.cells #[.int .i64 t, .int .i64 n, .int .i64 s, .slice A10 p.length c10] 24))
      have hsz : w9.heap.size ≤ w10.heap.size := (Bl.own hb10).size
      clear h10 hp10 hb10
      go_wp2_with fail
      generalize hw11 : w10.alloc (.cells #[.int .i64 t, .int .i64 n, .int .i64 s, .slice A10 p.length c10] 24) = w11 at HBc HKc HHc HRc hp11 hx11 hy11 ⊢
      have hs11 : w10.heap.size < w11.heap.size := by rw [← hw11]; simp
      have HW11 := Lib.hid hw11; clear hw11
      have HP11 : Hid (∀ W : World, Bl w11 W → Prs W W.heap.size A10 p) := fun W hb => (hp11.bl (by omega) hb).more (Nat.le_trans (by omega) hb.size)
      have HX11 : Hid (∀ W : World, Bl w11 W → Rd W W.heap.size A8 (bys (bytesOf ⟨t, n, s, p⟩))) := fun W hb => (hx11.bl (by omega) hb).more (Nat.le_trans (by omega) hb.size)
      have HY11 : Hid (∀ W : World, Bl w11 W → Rd W W.heap.size A9 (bys (bytesOf ⟨t', n', s', q⟩))) := fun W hb => (hy11.bl (by omega) hb).more (Nat.le_trans (by omega) hb.size)
      have HG11 : Hid (∀ W : World, Bl w11 W → Prs W W.heap.size A p) := fun W hb => (HP.out W (HBc.out.trans hb)).more (HBc.out.trans hb).size
      have HQ11 : Hid (∀ W : World, Bl w11 W → Prs W W.heap.size A' q) := fun W hb => (HQ.out W (HBc.out.trans hb)).more (HBc.out.trans hb).size
      have HBd := Lib.hid (Bl.refl w11)
      have HMp : Hid (∀ x ∈ p, x.right.length ≤ 9223372036854775807) := fun x hx => Nat.le_trans (HPR.out x hx) (by decide)
      clear hp11 hx11 hy11
      have tk1 : True := trivial
      have tk2 : True := trivial
      have tk3 : True := trivial
      have tk4 : True := trivial
      cases hok' : okB ⟨t', n', s', q⟩ with
      | false =>
        rw [errOf_no hok']
        clear hok'
        refine wp_region_held_drew (S := (fun w' => w'.cell? ⟨w.heap.size, 0, none⟩ = some (.int .i64 t) ∧ w'.cell? ⟨w.heap.size, 1, none⟩ = some (.int .i64 n) ∧ w'.cell? ⟨w.heap.size, 2, none⟩ = some (.int .i64 s) ∧ w'.cell? ⟨w.heap.size, 3, none⟩ = some (.slice A p.length c) ∧ w'.cell? ⟨w10.heap.size, 0, none⟩ = some (.int .i64 t) ∧ w'.cell? ⟨w10.heap.size, 1, none⟩ = some (.int .i64 n) ∧ w'.cell? ⟨w10.heap.size, 2, none⟩ = some (.int .i64 s) ∧ w'.cell? ⟨w10.heap.size, 3, none⟩ = some (.slice A10 p.length c10))) (by kernel_rfl) ⟨HKc.out.cell 0, HKc.out.cell 1, HKc.out.cell 2, HKc.out.cell 3, HRc.out.cell 0, HRc.out.cell 1, HRc.out.cell 2, HRc.out.cell 3⟩ (fun hHeld => ?_)
        refine wpAnyH_take (i := 0) (oi := ({ dst := some 84, op := Op.load 24 (Operand.tmp 3), type := 24, pos := "law.go:79", after := #[], guard := none } : Oper)) (v := ?_) rfl (by kernel_rfl) (by kernel_rfl) (by kernel_rfl) (fun _ _ _ h => h) (Or.inl ⟨by rfl, ?_⟩) hHeld ?_
        rotate_left
        · (intro w hSw; (try dsimp only at hSw); go_simp) <;> with_reducible rfl
        try simp only [Act.put, List.setIfInBounds_toArray, List.set_cons_zero, List.set_cons_succ]
        refine wpAnyH_ready (rs := [1]) (by kernel_rfl) (by simp) ?_
        refine AllReadyH.cons (o := ({ dst := some 85, op := Op.call { callee := Callee.value (Operand.func 13), args := #[Operand.tmp 84], argTypes := #[24] }, type := 4, pos := "law.go:79", after := #[{ on := 0, ground := Ground.data }], guard := none } : Oper)) rfl (fun K hK => ?_) AllReadyH.nil
        go_simp
        ((with_reducible refine (right_any t n s A p.length c p _ w11.heap.size rfl hmax (HG11.out w11 (Bl.refl w11)).drew (Nat.le_refl _)).mono ?_); rintro e v1 ⟨rfl, hb1⟩)
        rw [HOK.out]
        have HKc := Lib.hid (HKc.out.bl (Bl.undrew hb1))
        have HRc := Lib.hid (HRc.out.bl (Bl.undrew hb1))
        have HBd := Lib.hid (HBd.out.trans (Bl.undrew hb1))
        clear hb1
        go_wp2_with fail
        refine hK.out _ _ ⟨HKc.out.cell 0, HKc.out.cell 1, HKc.out.cell 2, HKc.out.cell 3, HRc.out.cell 0, HRc.out.cell 1, HRc.out.cell 2, HRc.out.cell 3⟩ (fun hHeld => ?_)
        clear hK K
        try simp only [Act.put, List.setIfInBounds_toArray, List.set_cons_zero, List.set_cons_succ]
        refine wpAnyH_take (i := 2) (oi := ({ dst := some 86, op := Op.move (Operand.tmp 85), type := 4, pos := "law.go:79", after := #[{ on := 1, ground := Ground.data }, { on := 1, ground := Ground.chain }], guard := none } : Oper)) (v := ?_) rfl (by kernel_rfl) (by kernel_rfl) (by kernel_rfl) (fun _ _ _ h => h) (Or.inl ⟨by rfl, ?_⟩) hHeld ?_
        rotate_left
        · (intro w hSw; (try dsimp only at hSw); go_simp) <;> with_reducible rfl
        try simp only [Act.put, List.setIfInBounds_toArray, List.set_cons_zero, List.set_cons_succ]
        refine wpAnyH_take (i := 3) (oi := ({ dst := some 87, op := Op.move (Operand.tmp 16), type := 28, pos := "law.go:79", after := #[{ on := 2, ground := Ground.guard }], guard := some (2, true) } : Oper)) (v := ?_) rfl (by kernel_rfl) (by kernel_rfl) (by kernel_rfl) (fun _ _ _ h => h) (Or.inl ⟨by rfl, ?_⟩) hHeld ?_
        rotate_left
        · (intro w hSw; (try dsimp only at hSw); go_simp) <;> with_reducible rfl
        try simp only [Act.put, List.setIfInBounds_toArray, List.set_cons_zero, List.set_cons_succ]
        refine wpAnyH_take (i := 4) (oi := ({ dst := some 88, op := Op.binOp BinOp.eql 28 (Operand.tmp 87) (Operand.const (Value.int IntKind.i64 0)) 28, type := 4, pos := "law.go:79", after := #[{ on := 3, ground := Ground.data }, { on := 2, ground := Ground.guard }], guard := some (2, true) } : Oper)) (v := ?_) rfl (by kernel_rfl) (by kernel_rfl) (by kernel_rfl) (fun _ _ _ h => h) (Or.inl ⟨by rfl, ?_⟩) hHeld ?_
        rotate_left
        · (intro w hSw; (try dsimp only at hSw); go_simp) <;> with_reducible rfl
        try simp only [Act.put, List.setIfInBounds_toArray, List.set_cons_zero, List.set_cons_succ]
        refine wpAnyH_take (i := 5) (oi := ({ dst := some 89, op := Op.pick (Operand.tmp 86) (Operand.tmp 88) (Operand.const (Value.bool false)), type := 4, pos := "law.go:79", after := #[{ on := 2, ground := Ground.data }, { on := 4, ground := Ground.data }], guard := none } : Oper)) (v := ?_) rfl (by kernel_rfl) (by kernel_rfl) (by kernel_rfl) (fun _ _ _ h => h) (Or.inl ⟨by rfl, ?_⟩) hHeld ?_
        rotate_left
        · (intro w hSw; (try dsimp only at hSw); go_simp) <;> with_reducible rfl
        try simp only [Act.put, List.setIfInBounds_toArray, List.set_cons_zero, List.set_cons_succ]
        refine wpAnyH_take (i := 6) (oi := ({ dst := some 90, op := Op.move (Operand.tmp 89), type := 4, pos := "law.go:79", after := #[{ on := 5, ground := Ground.data }, { on := 2, ground := Ground.chain }], guard := none } : Oper)) (v := ?_) rfl (by kernel_rfl) (by kernel_rfl) (by kernel_rfl) (fun _ _ _ h => h) (Or.inl ⟨by rfl, ?_⟩) hHeld ?_
        rotate_left
        · (intro w hSw; (try dsimp only at hSw); go_simp) <;> with_reducible rfl
        try simp only [Act.put, List.setIfInBounds_toArray, List.set_cons_zero, List.set_cons_succ]
        refine wpAnyH_take (i := 7) (oi := ({ dst := some 91, op := Op.load 24 (Operand.tmp 15), type := 24, pos := "law.go:79", after := #[{ on := 6, ground := Ground.guard }], guard := some (6, true) } : Oper)) (v := ?_) rfl (by kernel_rfl) (by kernel_rfl) (by kernel_rfl) (fun _ _ _ h => h) (Or.inl ⟨by rfl, ?_⟩) hHeld ?_
        rotate_left
        · (intro w hSw; (try dsimp only at hSw); go_simp) <;> with_reducible rfl
        try simp only [Act.put, List.setIfInBounds_toArray, List.set_cons_zero, List.set_cons_succ]
        refine wpAnyH_take (i := 8) (oi := ({ dst := some 92, op := Op.load 24 (Operand.tmp 3), type := 24, pos := "law.go:79", after := #[{ on := 6, ground := Ground.guard }], guard := some (6, true) } : Oper)) (v := ?_) rfl (by kernel_rfl) (by kernel_rfl) (by kernel_rfl) (fun _ _ _ h => h) (Or.inl ⟨by rfl, ?_⟩) hHeld ?_
        rotate_left
        · (intro w hSw; (try dsimp only at hSw); go_simp) <;> with_reducible rfl
        try simp only [Act.put, List.setIfInBounds_toArray, List.set_cons_zero, List.set_cons_succ]
        refine wpAnyH_ready (rs := [9]) (by kernel_rfl) (by simp) ?_
        refine AllReadyH.cons (o := ({ dst := some 93, op := Op.call { callee := Callee.value (Operand.func 16), args := #[Operand.tmp 91, Operand.tmp 92], argTypes := #[24, 24] }, type := 4, pos := "law.go:79", after := #[{ on := 7, ground := Ground.data }, { on := 8, ground := Ground.data }, { on := 6, ground := Ground.chain }, { on := 6, ground := Ground.guard }], guard := some (6, true) } : Oper)) rfl (fun K hK => ?_) AllReadyH.nil
        go_simp
        ((with_reducible refine (rsame_any t n s t n s A10 A p.length p.length c10 c p p _ v1.heap.size rfl rfl hmax HMp.out (HP11.out v1 HBd.out) (HG11.out v1 HBd.out) (Nat.le_refl _)).mono ?_); rintro e v2 ⟨rfl, hb2⟩)
        rw [decide_eq_true rfl]
        have HKc := Lib.hid (HKc.out.bl hb2)
        have HRc := Lib.hid (HRc.out.bl hb2)
        have HBd := Lib.hid (HBd.out.trans hb2)
        clear hb2
        go_wp2_with fail
        refine hK.out _ _ ⟨HKc.out.cell 0, HKc.out.cell 1, HKc.out.cell 2, HKc.out.cell 3, HRc.out.cell 0, HRc.out.cell 1, HRc.out.cell 2, HRc.out.cell 3⟩ (fun hHeld => ?_)
        clear hK K
        try simp only [Act.put, List.setIfInBounds_toArray, List.set_cons_zero, List.set_cons_succ]
        refine wpAnyH_take (i := 10) (oi := ({ dst := some 94, op := Op.pick (Operand.tmp 90) (Operand.tmp 93) (Operand.const (Value.bool false)), type := 4, pos := "law.go:79", after := #[{ on := 6, ground := Ground.data }, { on := 9, ground := Ground.data }], guard := none } : Oper)) (v := ?_) rfl (by kernel_rfl) (by kernel_rfl) (by kernel_rfl) (fun _ _ _ h => h) (Or.inl ⟨by rfl, ?_⟩) hHeld ?_
        rotate_left
        · (intro w hSw; (try dsimp only at hSw); go_simp) <;> with_reducible rfl
        try simp only [Act.put, List.setIfInBounds_toArray, List.set_cons_zero, List.set_cons_succ]
        refine wpAnyH_take (i := 11) (oi := ({ dst := some 95, op := Op.move (Operand.tmp 94), type := 4, pos := "law.go:79", after := #[{ on := 10, ground := Ground.data }, { on := 9, ground := Ground.chain }], guard := none } : Oper)) (v := ?_) rfl (by kernel_rfl) (by kernel_rfl) (by kernel_rfl) (fun _ _ _ h => h) (Or.inl ⟨by rfl, ?_⟩) hHeld ?_
        rotate_left
        · (intro w hSw; (try dsimp only at hSw); go_simp) <;> with_reducible rfl
        try simp only [Act.put, List.setIfInBounds_toArray, List.set_cons_zero, List.set_cons_succ]
        refine wpAnyH_take (i := 12) (oi := ({ dst := some 96, op := Op.move (Operand.tmp 14), type := 28, pos := "law.go:79", after := #[{ on := 11, ground := Ground.guard }], guard := some (11, true) } : Oper)) (v := ?_) rfl (by kernel_rfl) (by kernel_rfl) (by kernel_rfl) (fun _ _ _ h => h) (Or.inl ⟨by rfl, ?_⟩) hHeld ?_
        rotate_left
        · (intro w hSw; (try dsimp only at hSw); go_simp) <;> with_reducible rfl
        try simp only [Act.put, List.setIfInBounds_toArray, List.set_cons_zero, List.set_cons_succ]
        refine wpAnyH_take (i := 13) (oi := ({ dst := some 97, op := Op.binOp BinOp.neq 28 (Operand.tmp 96) (Operand.const (Value.int IntKind.i64 0)) 28, type := 4, pos := "law.go:79", after := #[{ on := 12, ground := Ground.data }, { on := 11, ground := Ground.guard }], guard := some (11, true) } : Oper)) (v := ?_) rfl (by kernel_rfl) (by kernel_rfl) (by kernel_rfl) (fun _ _ _ h => h) (Or.inl ⟨by rfl, ?_⟩) hHeld ?_
        rotate_left
        · (intro w hSw; (try dsimp only at hSw); go_simp) <;> with_reducible rfl
        try simp only [Act.put, List.setIfInBounds_toArray, List.set_cons_zero, List.set_cons_succ]
        refine wpAnyH_take (i := 14) (oi := ({ dst := some 98, op := Op.move (Operand.tmp 97), type := 4, pos := "law.go:79", after := #[{ on := 13, ground := Ground.data }, { on := 11, ground := Ground.chain }, { on := 11, ground := Ground.guard }], guard := some (11, true) } : Oper)) (v := ?_) rfl (by kernel_rfl) (by kernel_rfl) (by kernel_rfl) (fun _ _ _ h => h) (Or.inl ⟨by rfl, ?_⟩) hHeld ?_
        rotate_left
        · (intro w hSw; (try dsimp only at hSw); go_simp) <;> with_reducible rfl
        try simp only [Act.put, List.setIfInBounds_toArray, List.set_cons_zero, List.set_cons_succ]
        refine wpAnyH_take (i := 15) (oi := ({ dst := some 99, op := Op.move (Operand.tmp 11), type := 25, pos := "law.go:79", after := #[{ on := 14, ground := Ground.guard }], guard := some (14, false) } : Oper)) (v := undef) rfl (by kernel_rfl) (by kernel_rfl) (by kernel_rfl) (fun _ _ _ h => h) (Or.inr ⟨by rfl, rfl⟩) hHeld ?_
        try simp only [Act.put, List.setIfInBounds_toArray, List.set_cons_zero, List.set_cons_succ]
        refine wpAnyH_take (i := 16) (oi := ({ dst := some 100, op := Op.move (Operand.tmp 13), type := 25, pos := "law.go:79", after := #[{ on := 14, ground := Ground.guard }], guard := some (14, false) } : Oper)) (v := undef) rfl (by kernel_rfl) (by kernel_rfl) (by kernel_rfl) (fun _ _ _ h => h) (Or.inr ⟨by rfl, rfl⟩) hHeld ?_
        try simp only [Act.put, List.setIfInBounds_toArray, List.set_cons_zero, List.set_cons_succ]
        refine wpAnyH_take (i := 17) (oi := ({ dst := some 101, op := Op.call { callee := Callee.value (Operand.func 21), args := #[Operand.tmp 99, Operand.tmp 100], argTypes := #[25, 25] }, type := 4, pos := "law.go:79", after := #[{ on := 15, ground := Ground.data }, { on := 16, ground := Ground.data }, { on := 14, ground := Ground.chain }, { on := 14, ground := Ground.guard }], guard := some (14, false) } : Oper)) (v := undef) rfl (by kernel_rfl) (by kernel_rfl) (by kernel_rfl) (fun _ _ _ h => h) (Or.inr ⟨by rfl, rfl⟩) hHeld ?_
        try simp only [Act.put, List.setIfInBounds_toArray, List.set_cons_zero, List.set_cons_succ]
        refine wpAnyH_take (i := 18) (oi := ({ dst := some 102, op := Op.load 24 (Operand.tmp 3), type := 24, pos := "law.go:79", after := #[{ on := 14, ground := Ground.guard }], guard := some (14, false) } : Oper)) (v := undef) rfl (by kernel_rfl) (by kernel_rfl) (by kernel_rfl) (fun _ _ _ h => h) (Or.inr ⟨by rfl, rfl⟩) hHeld ?_
        try simp only [Act.put, List.setIfInBounds_toArray, List.set_cons_zero, List.set_cons_succ]
        refine wpAnyH_take (i := 19) (oi := ({ dst := some 103, op := Op.load 24 (Operand.tmp 4), type := 24, pos := "law.go:79", after := #[{ on := 14, ground := Ground.guard }], guard := some (14, false) } : Oper)) (v := undef) rfl (by kernel_rfl) (by kernel_rfl) (by kernel_rfl) (fun _ _ _ h => h) (Or.inr ⟨by rfl, rfl⟩) hHeld ?_
        try simp only [Act.put, List.setIfInBounds_toArray, List.set_cons_zero, List.set_cons_succ]
        refine wpAnyH_take (i := 20) (oi := ({ dst := some 104, op := Op.call { callee := Callee.value (Operand.func 16), args := #[Operand.tmp 102, Operand.tmp 103], argTypes := #[24, 24] }, type := 4, pos := "law.go:79", after := #[{ on := 18, ground := Ground.data }, { on := 19, ground := Ground.data }, { on := 17, ground := Ground.chain }, { on := 14, ground := Ground.guard }], guard := some (14, false) } : Oper)) (v := undef) rfl (by kernel_rfl) (by kernel_rfl) (by kernel_rfl) (fun _ _ _ h => h) (Or.inr ⟨by rfl, rfl⟩) hHeld ?_
        try simp only [Act.put, List.setIfInBounds_toArray, List.set_cons_zero, List.set_cons_succ]
        refine wpAnyH_take (i := 21) (oi := ({ dst := some 105, op := Op.binOp BinOp.eql 4 (Operand.tmp 101) (Operand.tmp 104) 4, type := 4, pos := "law.go:79", after := #[{ on := 17, ground := Ground.data }, { on := 20, ground := Ground.data }, { on := 14, ground := Ground.guard }], guard := some (14, false) } : Oper)) (v := undef) rfl (by kernel_rfl) (by kernel_rfl) (by kernel_rfl) (fun _ _ _ h => h) (Or.inr ⟨by rfl, rfl⟩) hHeld ?_
        try simp only [Act.put, List.setIfInBounds_toArray, List.set_cons_zero, List.set_cons_succ]
        refine wpAnyH_take (i := 22) (oi := ({ dst := some 106, op := Op.pick (Operand.tmp 98) (Operand.const (Value.bool true)) (Operand.tmp 105), type := 4, pos := "law.go:79", after := #[{ on := 14, ground := Ground.data }, { on := 21, ground := Ground.data }, { on := 11, ground := Ground.guard }], guard := some (11, true) } : Oper)) (v := ?_) rfl (by kernel_rfl) (by kernel_rfl) (by kernel_rfl) (fun _ _ _ h => h) (Or.inl ⟨by rfl, ?_⟩) hHeld ?_
        rotate_left
        · (intro w hSw; (try dsimp only at hSw); go_simp) <;> with_reducible rfl
        try simp only [Act.put, List.setIfInBounds_toArray, List.set_cons_zero, List.set_cons_succ]
        refine wpAnyH_take (i := 23) (oi := ({ dst := some 107, op := Op.pick (Operand.tmp 95) (Operand.tmp 106) (Operand.const (Value.bool false)), type := 4, pos := "law.go:79", after := #[{ on := 11, ground := Ground.data }, { on := 22, ground := Ground.data }], guard := none } : Oper)) (v := ?_) rfl (by kernel_rfl) (by kernel_rfl) (by kernel_rfl) (fun _ _ _ h => h) (Or.inl ⟨by rfl, ?_⟩) hHeld ?_
        rotate_left
        · (intro w hSw; (try dsimp only at hSw); go_simp) <;> with_reducible rfl
        try simp only [Act.put, List.setIfInBounds_toArray, List.set_cons_zero, List.set_cons_succ]
        refine wpAnyH_take (i := 24) (oi := ({ dst := some 6, op := Op.assign (Operand.tmp 107), type := 4, pos := "law.go:79", after := #[{ on := 23, ground := Ground.data }, { on := 20, ground := Ground.chain }, { on := 0, ground := Ground.phase }, { on := 1, ground := Ground.phase }, { on := 2, ground := Ground.phase }, { on := 3, ground := Ground.phase }, { on := 4, ground := Ground.phase }, { on := 5, ground := Ground.phase }, { on := 6, ground := Ground.phase }, { on := 7, ground := Ground.phase }, { on := 8, ground := Ground.phase }, { on := 9, ground := Ground.phase }, { on := 10, ground := Ground.phase }, { on := 11, ground := Ground.phase }, { on := 12, ground := Ground.phase }, { on := 13, ground := Ground.phase }, { on := 14, ground := Ground.phase }, { on := 15, ground := Ground.phase }, { on := 16, ground := Ground.phase }, { on := 17, ground := Ground.phase }, { on := 18, ground := Ground.phase }, { on := 19, ground := Ground.phase }, { on := 20, ground := Ground.phase }, { on := 21, ground := Ground.phase }, { on := 22, ground := Ground.phase }, { on := 23, ground := Ground.phase }], guard := none } : Oper)) (v := ?_) rfl (by kernel_rfl) (by kernel_rfl) (by kernel_rfl) (fun _ _ _ h => h) (Or.inl ⟨by rfl, ?_⟩) hHeld ?_
        rotate_left
        · (intro w hSw; (try dsimp only at hSw); go_simp) <;> with_reducible rfl
        try simp only [Act.put, List.setIfInBounds_toArray, List.set_cons_zero, List.set_cons_succ]
        refine wpAnyH_done (by kernel_rfl) ?_ _
        go_wp2_with fail
        go_ret
        exact ⟨rfl, HBc.out.trans HBd.out⟩
      | true =>
        rw [errOf_ok hok']
        have HIff := Lib.hid (bytes_iff HOK.out hok')
        clear hok'
        go_region_held3 (fun w' => w'.cell? ⟨w.heap.size, 0, none⟩ = some (.int .i64 t) ∧ w'.cell? ⟨w.heap.size, 1, none⟩ = some (.int .i64 n) ∧ w'.cell? ⟨w.heap.size, 2, none⟩ = some (.int .i64 s) ∧ w'.cell? ⟨w.heap.size, 3, none⟩ = some (.slice A p.length c) ∧ w'.cell? ⟨w10.heap.size, 0, none⟩ = some (.int .i64 t) ∧ w'.cell? ⟨w10.heap.size, 1, none⟩ = some (.int .i64 n) ∧ w'.cell? ⟨w10.heap.size, 2, none⟩ = some (.int .i64 s) ∧ w'.cell? ⟨w10.heap.size, 3, none⟩ = some (.slice A10 p.length c10) ∧ w'.cell? ⟨w.heap.size + 1, 0, none⟩ = some (.int .i64 t') ∧ w'.cell? ⟨w.heap.size + 1, 1, none⟩ = some (.int .i64 n') ∧ w'.cell? ⟨w.heap.size + 1, 2, none⟩ = some (.int .i64 s') ∧ w'.cell? ⟨w.heap.size + 1, 3, none⟩ = some (.slice A' q.length c')) (exact ⟨HKc.out.cell 0, HKc.out.cell 1, HKc.out.cell 2, HKc.out.cell 3, HRc.out.cell 0, HRc.out.cell 1, HRc.out.cell 2, HRc.out.cell 3, HHc.out.cell 0, HHc.out.cell 1, HHc.out.cell 2, HHc.out.cell 3⟩) (first
          | (go_at_call 13; ((with_reducible refine (right_any t n s A p.length c p _ w11.heap.size rfl hmax (HG11.out w11 (Bl.refl w11)).drew (Nat.le_refl _)).mono ?_); rintro e v1 ⟨rfl, hb1⟩; rw [HOK.out]; have HKc := Lib.hid (HKc.out.bl (Bl.undrew hb1)); have HRc := Lib.hid (HRc.out.bl (Bl.undrew hb1)); have HHc := Lib.hid (HHc.out.bl (Bl.undrew hb1)); have HBd := Lib.hid (HBd.out.trans (Bl.undrew hb1)); clear hb1))
          | (go_at_call 16; have _t := tk2; ((with_reducible refine (rsame_any t n s t n s A10 A p.length p.length c10 c p p _ v1.heap.size rfl rfl hmax HMp.out (HP11.out v1 HBd.out) (HG11.out v1 HBd.out) (Nat.le_refl _)).mono ?_); rintro e v2 ⟨rfl, hb2⟩; rw [decide_eq_true rfl]; have HKc := Lib.hid (HKc.out.bl hb2); have HRc := Lib.hid (HRc.out.bl hb2); have HHc := Lib.hid (HHc.out.bl hb2); have HBd := Lib.hid (HBd.out.trans hb2); clear hb2 tk2))
          | (go_at_call 21; ((with_reducible refine (same_bl A8 A9 n8 n9 c8 c9 (bytesOf ⟨t, n, s, p⟩) (bytesOf ⟨t', n', s', q⟩) _ v2.heap.size HN8.out HN9.out (by omega) (HX11.out v2 HBd.out) (HY11.out v2 HBd.out)).mono ?_); rintro e v3 ⟨rfl, hb3⟩; rw [HIff.out]; have HKc := Lib.hid (HKc.out.bl hb3); have HRc := Lib.hid (HRc.out.bl hb3); have HHc := Lib.hid (HHc.out.bl hb3); have HBd := Lib.hid (HBd.out.trans hb3); clear hb3))
          | (go_at_call 16; have _t := tk4; ((with_reducible refine (rsame_any t n s t' n' s' A A' p.length q.length c c' p q _ v3.heap.size rfl rfl hmax HMp.out (HG11.out v3 HBd.out) (HQ11.out v3 HBd.out) (Nat.le_refl _)).mono ?_); rintro e v4 ⟨rfl, hb4⟩; have HKc := Lib.hid (HKc.out.bl hb4); have HRc := Lib.hid (HRc.out.bl hb4); have HHc := Lib.hid (HHc.out.bl hb4); have HBd := Lib.hid (HBd.out.trans hb4); clear hb4 tk4)))
        go_wp2_with fail
        go_ret
        exact ⟨by simp, HBc.out.trans HBd.out⟩
end Go.Proofs.Ytlfobnpkfloolaa
