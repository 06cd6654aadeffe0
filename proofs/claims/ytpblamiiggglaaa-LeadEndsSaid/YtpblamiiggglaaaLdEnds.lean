/- LeadEnds: no derivation stands ahead of the least one, or behind the greatest. -/
import Derived.Test.YtpblamiiggglaaaLdEndM
import Derived.Test.YtpblamiiggglaaaTRep
import Derived.Test.YtpblamiiggglaaaTLess
namespace Go.Proofs.Ytpblamiiggglaaa
open Go.RowKit

theorem own_max {w : World} {base size n : Nat} {e : TypeId} {v : Value} {xs : List Value} (h : w.ownsRow base e size v n xs) : n ≤ maxLen := by
  rcases h.2 with ⟨_, h0⟩ | ⟨_, _, _, _, _, _, h2, h1, _⟩
  · rw [h0]; exact Nat.zero_le _
  · exact Nat.le_trans h2 h1

set_option maxRecDepth 100000 in
set_option maxHeartbeats 8000000 in
theorem leadEnds_any (t n s : Int) (A : Option Addr) (len c : Nat) (ps : List Gr.Pr) (Al : Option Addr) (ll cl : Nat) (xs : List Int) (Ao : Option Addr) (lo co : Nat) (os : List Int) (W : World) (hlen : len = ps.length) (hmax : len ≤ 9223372036854775807) (hr : PrsC W W.heap.size A ps)
    (hll : ll = xs.length) (hrl : Rd W W.heap.size Al (ins xs)) (hcl : ll ≤ cl) (hml : ll ≤ 9223372036854775807) (hlo : lo = os.length) (hro : Rd W W.heap.size Ao (ins os)) (hmo : lo ≤ 9223372036854775807) :
    Calls Try.prog 5 #[.agg #[.int .i64 t, .int .i64 n, .int .i64 s, .slice A len c], .slice Al ll cl, .slice Ao lo co] W fun e w' => e = .returned (.bool true) ∧ Bl W w' := by
  have HB0 : Hid (Bl W (W.alloc (.cells #[.int .i64 t, .int .i64 n, .int .i64 s, .slice A len c] 24))) := (Bl.refl W).alloc _
  have HK0 := Lib.hid (Bk.new W 24 #[.int .i64 t, .int .i64 n, .int .i64 s, .slice A len c])
  have HL := Lib.hid hlen
  have HLL := Lib.hid hll
  have HPc : Hid (∀ w', Bl W w' → PrsC w' w'.heap.size A ps) := fun _ hb => lprs_on hr hb
  have HXc : Hid (∀ w', Bl W w' → Rd w' w'.heap.size Al (ins xs)) := fun _ hb => lrd_on hrl hb
  have HLO := Lib.hid hlo
  have HOc : Hid (∀ w', Bl W w' → Rd w' w'.heap.size Ao (ins os)) := fun _ hb => lrd_on hro hb
  clear hlen hll hr hrl hlo hro
  go_enter Try.func5, Try.ntmps5
  go_wp2_with fail
  refine (awake17_any _).mono ?_
  rintro e w1 ⟨rfl, hb1⟩
  have HB1 := Lib.hid (HB0.out.trans hb1)
  have HK1 := Lib.hid (HK0.out.bl hb1)
  clear hb1 HB0 HK0
  have k0 : w1.cell? ⟨W.heap.size, 0, none⟩ = some (.int .i64 t) := HK1.out.cell 0
  have k1 : w1.cell? ⟨W.heap.size, 1, none⟩ = some (.int .i64 n) := HK1.out.cell 1
  have k2 : w1.cell? ⟨W.heap.size, 2, none⟩ = some (.int .i64 s) := HK1.out.cell 2
  have k3 : w1.cell? ⟨W.heap.size, 3, none⟩ = some (.slice A len c) := HK1.out.cell 3
  have kl := HK1.out.lt
  go_wp2_with fail
  refine (large17_any t n s A len c ps Al ll cl w1 w1.heap.size HL.out hmax hml (HPc.out w1 HB1.out).prs (Nat.le_refl _)).mono ?_
  rintro e w2 ⟨rfl, hb2⟩
  have HB2 := Lib.hid (HB1.out.trans hb2)
  have HK2 := Lib.hid (HK1.out.bl hb2)
  clear hb2 HB1 HK1 k0 k1 k2 k3 kl
  cases hl : lg17 ps ll with
  | true =>
    go_wp2_with fail
    go_ret
    exact ⟨rfl, HB2.out⟩
  | false =>
  clear hl
  have k0 : w2.cell? ⟨W.heap.size, 0, none⟩ = some (.int .i64 t) := HK2.out.cell 0
  have k1 : w2.cell? ⟨W.heap.size, 1, none⟩ = some (.int .i64 n) := HK2.out.cell 1
  have k2 : w2.cell? ⟨W.heap.size, 2, none⟩ = some (.int .i64 s) := HK2.out.cell 2
  have k3 : w2.cell? ⟨W.heap.size, 3, none⟩ = some (.slice A len c) := HK2.out.cell 3
  have kl := HK2.out.lt
  go_wp2_with fail
  refine (rfit_any t n s A len c ps Al ll cl xs w2 w2.heap.size HL.out hmax (HPc.out w2 HB2.out).prs HLL.out hml (HXc.out w2 HB2.out) (Nat.le_refl _)).mono ?_
  rintro e w3 ⟨rfl, hb3⟩
  have HB3 := Lib.hid (HB2.out.trans hb3)
  have HK3 := Lib.hid (HK2.out.bl hb3)
  clear hb3 HB2 HK2 k0 k1 k2 k3 kl
  cases hf : fitB ⟨t, n, s, ps⟩ xs with
  | false =>
    clear hf
    go_wp2_with fail
    go_ret
    exact ⟨rfl, HB3.out⟩
  | true =>
  by_cases ho : (100 : Int) < (lo : Int)
  · go_wp2_with fail
    go_ret
    exact ⟨rfl, HB3.out⟩
  have hl24 : ll ≤ 24 := by have h := (fit_good hf).2.2; have := HLL.out; omega
  have HF := Lib.hid hf
  clear hf
  have k0 : w3.cell? ⟨W.heap.size, 0, none⟩ = some (.int .i64 t) := HK3.out.cell 0
  have k1 : w3.cell? ⟨W.heap.size, 1, none⟩ = some (.int .i64 n) := HK3.out.cell 1
  have k2 : w3.cell? ⟨W.heap.size, 2, none⟩ = some (.int .i64 s) := HK3.out.cell 2
  have k3 : w3.cell? ⟨W.heap.size, 3, none⟩ = some (.slice A len c) := HK3.out.cell 3
  have kl := HK3.out.lt
  have HLd : Hid (∀ (k : Nat) (wx : World), k ≤ 2 → Bl W wx → Calls Try.prog 11 #[.agg #[.int .i64 t, .int .i64 n, .int .i64 s, .slice A len c], .slice Al ll cl, .int .i64 (k : Int)] wx (LPost (leadOf ⟨t, n, s, ps⟩ xs k) wx)) := fun k wx hk hb => by
    have h := lead_any t n s A len c ps Al ll cl xs (k : Int) wx wx.heap.size HL.out hmax (HPc.out wx hb) HLL.out (by omega) hcl (HXc.out wx hb) (Nat.le_refl _)
    rwa [leadsOf_yes hk HF.out] at h
  have HL0 := Lib.hid (HLd.out 0 w3 (by omega) HB3.out)
  have HL1 : Hid (∀ wx, Bl W wx → Calls Try.prog 11 #[.agg #[.int .i64 t, .int .i64 n, .int .i64 s, .slice A len c], .slice Al ll cl, .int .i64 1] wx (LPost (leadOf ⟨t, n, s, ps⟩ xs 1) wx)) := fun wx hb => HLd.out 1 wx (by omega) hb
  have HRp : Hid (∀ wx, Bl W wx → Calls Try.prog 16 #[.agg #[.int .i64 t, .int .i64 n, .int .i64 s, .slice A len c], .slice Ao lo co] wx (TWPost (Dv.replayOf (okB ⟨t, n, s, ps⟩) ⟨t, n, s, ps⟩ os) wx)) := fun wx hb => treplay_any t n s A len c ps Ao lo co os wx wx.heap.size HL.out hmax (HPc.out wx hb).prs (Nat.le_refl _) HLO.out (by omega) (HOc.out wx hb)
  have HCd := Lib.hid (leads_codes ⟨t, n, s, ps⟩ xs)
  have HEn := Lib.hid (fun h0 h1 => And.intro (leads_ends HF.out h0 h1).1 ((leads_ends HF.out h0 h1).2 os))
  have hn0 := leadOf_len ⟨t, n, s, ps⟩ xs 0
  have hn1 := leadOf_len ⟨t, n, s, ps⟩ xs 1
  have hrz := (Dv.replay_le (okg := okB ⟨t, n, s, ps⟩) (g := ⟨t, n, s, ps⟩) (l := os))
  clear HLd
  generalize leadOf ⟨t, n, s, ps⟩ xs 0 = x at *
  generalize leadOf ⟨t, n, s, ps⟩ xs 1 = y at *
  generalize Dv.replayOf (okB ⟨t, n, s, ps⟩) ⟨t, n, s, ps⟩ os = z at *
  obtain ⟨la, ea⟩ := x
  obtain ⟨lb, eb⟩ := y
  obtain ⟨lv, ev⟩ := z
  replace hn0 : la.length ≤ 2000 := hn0
  replace hn1 : lb.length ≤ 2000 := hn1
  clear hrz
  have HCd : Hid ((ea = 11 ∧ eb = 11) ∨ (ea = 5 ∧ eb = 5) ∨ (ea = 5 ∧ eb = 0) ∨ (ea = 0 ∧ eb = 5) ∨ (ea = 0 ∧ eb = 0)) := by
    have h := HCd.out
    simp only [Prod.mk.injEq] at h
    exact h
  have HEn : Hid (ea = 0 → eb = 0 → Dv.less lb la = false ∧ (ev = 0 → lv = xs → Dv.less os la = false ∧ Dv.less lb os = false ∧ (la = lb → la = os))) := HEn.out
  go_wp2_with fail
  refine HL0.out.mono ?_
  rintro e w4 ⟨A4, c4, rfl, hc4, hr4, hb4⟩
  have HR4 := Lib.hid hr4
  have HB4 := Lib.hid (HB3.out.trans hb4)
  have HK4 := Lib.hid (HK3.out.bl hb4)
  clear hr4 hb4 k0 k1 k2 k3 kl HL0
  have k0 : w4.cell? ⟨W.heap.size, 0, none⟩ = some (.int .i64 t) := HK4.out.cell 0
  have k1 : w4.cell? ⟨W.heap.size, 1, none⟩ = some (.int .i64 n) := HK4.out.cell 1
  have k2 : w4.cell? ⟨W.heap.size, 2, none⟩ = some (.int .i64 s) := HK4.out.cell 2
  have k3 : w4.cell? ⟨W.heap.size, 3, none⟩ = some (.slice A len c) := HK4.out.cell 3
  have kl := HK4.out.lt
  go_wp2_with fail
  refine (HL1.out _ HB4.out).mono ?_
  rintro e w5 ⟨A5, c5, rfl, hc5, hr5, hb5⟩
  have HR5 := Lib.hid hr5
  have HR45 := Lib.hid (lrd_on HR4.out hb5)
  have HB5 := Lib.hid (HB4.out.trans hb5)
  have HK5 := Lib.hid (HK4.out.bl hb5)
  clear hr5 hb5 k0 k1 k2 k3 kl HL1
  have k0 : w5.cell? ⟨W.heap.size, 0, none⟩ = some (.int .i64 t) := HK5.out.cell 0
  have k1 : w5.cell? ⟨W.heap.size, 1, none⟩ = some (.int .i64 n) := HK5.out.cell 1
  have k2 : w5.cell? ⟨W.heap.size, 2, none⟩ = some (.int .i64 s) := HK5.out.cell 2
  have k3 : w5.cell? ⟨W.heap.size, 3, none⟩ = some (.slice A len c) := HK5.out.cell 3
  have kl := HK5.out.lt
  rcases HCd.out with ⟨rfl, rfl⟩ | ⟨rfl, rfl⟩ | ⟨rfl, rfl⟩ | ⟨rfl, rfl⟩ | ⟨rfl, rfl⟩
  · go_wp2_with fail
    go_ret
    exact ⟨rfl, HB5.out⟩
  · go_wp2_with fail
    go_ret
    exact ⟨rfl, HB5.out⟩
  · go_wp2_with fail
    go_ret
    exact ⟨rfl, HB5.out⟩
  · go_wp2_with fail
    go_ret
    exact ⟨rfl, HB5.out⟩
  obtain ⟨hba, hE2⟩ := HEn.out rfl rfl
  have HE2 := Lib.hid hE2
  clear HEn HCd hE2
  go_wp2_with fail
  have HL5 := Lib.hid (tless_any A5 A4 lb.length la.length c5 c4 lb la w5 w5.heap.size rfl rfl (by omega) HR5.out HR45.out)
  rw [hba] at HL5
  clear hba
  refine HL5.out.mono ?_
  rintro e w6 ⟨rfl, hb6⟩
  have HB6 := Lib.hid (HB5.out.trans hb6)
  have HK6 := Lib.hid (HK5.out.bl hb6)
  have HR56 := Lib.hid (lrd_on HR5.out hb6)
  have HR46 := Lib.hid (lrd_on HR45.out hb6)
  clear hb6 k0 k1 k2 k3 kl HL5
  have k0 : w6.cell? ⟨W.heap.size, 0, none⟩ = some (.int .i64 t) := HK6.out.cell 0
  have k1 : w6.cell? ⟨W.heap.size, 1, none⟩ = some (.int .i64 n) := HK6.out.cell 1
  have k2 : w6.cell? ⟨W.heap.size, 2, none⟩ = some (.int .i64 s) := HK6.out.cell 2
  have k3 : w6.cell? ⟨W.heap.size, 3, none⟩ = some (.slice A len c) := HK6.out.cell 3
  have kl := HK6.out.lt
  go_wp2_with fail
  refine (HRp.out _ HB6.out).mono ?_
  rintro e w7 ⟨A7, n7, c7, rfl, hn7, ho7, hb7⟩
  have HB7 := Lib.hid (HB6.out.trans hb7)
  have HR7 := Lib.hid (Rd.own ho7)
  have hm7 : n7 ≤ 9223372036854775807 := Nat.le_trans (own_max ho7) (by simp only [maxLen]; omega)
  have HR57 := Lib.hid (lrd_on HR56.out hb7)
  have HR47 := Lib.hid (lrd_on HR46.out hb7)
  clear ho7 hb7 k0 k1 k2 k3 kl
  replace hn7 : n7 = lv.length := hn7
  subst hn7
  have HR7 : Hid (Rd w7 w7.heap.size A7 (ins lv)) := HR7.out
  by_cases hev : ev = 0
  · subst hev
    have HLv := Lib.hid (isame_any A7 Al lv.length ll c7 cl lv xs w7 w7.heap.size rfl HLL.out hm7 HR7.out (HXc.out w7 HB7.out))
    by_cases hvx : lv = xs
    · obtain ⟨ho1, ho2, ho3⟩ := HE2.out rfl hvx
      rw [decide_eq_true hvx] at HLv
      have HO3 := Lib.hid ho3
      clear hvx ho3 HE2
      go_wp2_with fail
      refine HLv.out.mono ?_
      rintro e w8 ⟨rfl, q8, hq8⟩
      have HB78 : Hid (Bl w7 w8) := by rw [hq8]; exact (Bl.refl _).drewN _
      clear hq8
      have HB8 := Lib.hid (HB7.out.trans HB78.out)
      have HR58 := Lib.hid (lrd_on HR57.out HB78.out)
      have HR48 := Lib.hid (lrd_on HR47.out HB78.out)
      go_wp2_with fail
      have HLa := Lib.hid (tless_any Ao A4 lo la.length co c4 os la w8 w8.heap.size HLO.out rfl (by omega) (HOc.out w8 HB8.out) HR48.out)
      rw [ho1] at HLa
      refine HLa.out.mono ?_
      rintro e w9 ⟨rfl, hb9⟩
      have HB9 := Lib.hid (HB8.out.trans hb9)
      have HR59 := Lib.hid (lrd_on HR58.out hb9)
      have HR49 := Lib.hid (lrd_on HR48.out hb9)
      clear hb9 HLa ho1
      go_wp2_with fail
      have HLb := Lib.hid (tless_any A5 Ao lb.length lo c5 co lb os w9 w9.heap.size rfl HLO.out (by omega) HR59.out (HOc.out w9 HB9.out))
      rw [ho2] at HLb
      refine HLb.out.mono ?_
      rintro e w10 ⟨rfl, hb10⟩
      have HB10 := Lib.hid (HB9.out.trans hb10)
      have HR5x := Lib.hid (lrd_on HR59.out hb10)
      have HR4x := Lib.hid (lrd_on HR49.out hb10)
      clear hb10 HLb ho2
      go_wp2_with fail
      have HSm := Lib.hid (isame_any A4 A5 la.length lb.length c4 c5 la lb w10 w10.heap.size rfl rfl (by omega) HR4x.out HR5x.out)
      by_cases hab : la = lb
      · have hao := HO3.out hab
        rw [decide_eq_true hab] at HSm
        have HAo := Lib.hid hao
        clear hab hao
        refine HSm.out.mono ?_
        rintro e w11 ⟨rfl, q11, hq11⟩
        have HB11 : Hid (Bl w10 w11) := by rw [hq11]; exact (Bl.refl _).drewN _
        clear hq11
        go_wp2_with fail
        have HSo := Lib.hid (isame_any A4 Ao la.length lo c4 co la os w11 w11.heap.size rfl HLO.out (by omega) (lrd_on HR4x.out HB11.out) (HOc.out w11 (HB10.out.trans HB11.out)))
        rw [decide_eq_true HAo.out] at HSo
        refine HSo.out.mono ?_
        rintro e w12 ⟨rfl, q12, hq12⟩
        have HB12 : Hid (Bl W w12) := by rw [hq12]; exact (HB10.out.trans HB11.out).drewN _
        clear hq12
        go_wp2_with fail
        go_ret
        exact ⟨rfl, HB12.out⟩
      · rw [decide_eq_false hab] at HSm
        clear hab
        refine HSm.out.mono ?_
        rintro e w11 ⟨rfl, q11, hq11⟩
        have HB11 : Hid (Bl W w11) := by rw [hq11]; exact HB10.out.drewN _
        clear hq11
        go_wp2_with fail
        go_ret
        exact ⟨rfl, HB11.out⟩
    · rw [decide_eq_false hvx] at HLv
      clear hvx HE2
      go_wp2_with fail
      refine HLv.out.mono ?_
      rintro e w8 ⟨rfl, q8, hq8⟩
      have HB8 : Hid (Bl W w8) := by rw [hq8]; exact HB7.out.drewN _
      clear hq8
      go_wp2_with fail
      go_ret
      exact ⟨rfl, HB8.out⟩
  · have hq : (((ev : Nat) : Int) != 0) = true := by simp; omega
    have hq2 : (((ev : Nat) : Int) == 0) = false := by rw [beq_eq_false_iff_ne]; omega
    clear HE2
    go_wp2_with fail
    go_ret
    exact ⟨rfl, HB7.out⟩
end Go.Proofs.Ytpblamiiggglaaa
