/- LeadTells: the derivation of any kind, of any word and grammar, or why there is none, is as the document says. -/
import Derived.Test.YtpblamiiggglaaaLdRLead
import Derived.Test.YtpblamiiggglaaaLdD
import Derived.Test.YtpblamiiggglaaaLdE
namespace Go.Proofs.Ytpblamiiggglaaa
open Go.RowKit

theorem leadsOf_len (g : Gr.Gm) (u : List Int) (k : Int) : (leadsOf g u k).1.length ≤ 2000 := by
  unfold leadsOf
  split
  · exact leadOf_len _ _ _
  · exact Nat.zero_le _
set_option maxRecDepth 100000 in
set_option maxHeartbeats 3200000 in
theorem rlead_no (t n s : Int) (A : Option Addr) (len c : Nat) (ps : List Gr.Pr) (Aw : Option Addr) (lw cw : Nat) (u : List Int) (k : Int) (w : World) (B : Nat) (hlen : len = ps.length) (hmax : len ≤ 9223372036854775807) (hr : PrsC w B A ps) (hlw : lw = u.length) (hmw : lw ≤ 1000000) (hrw : Rd w B Aw (ins u)) (hB : B ≤ w.heap.size)
    (h : k < 0 ∨ 2 < k ∨ fitB ⟨t, n, s, ps⟩ u = false) :
    Calls Try.prog 12 #[.agg #[.int .i64 t, .int .i64 n, .int .i64 s, .slice A len c], .slice Aw lw cw, .int .i64 k] w (LPost ([], 1) w) := by
  have HB0 : Hid (Bl w (w.alloc (.cells #[.int .i64 t, .int .i64 n, .int .i64 s, .slice A len c] 24))) := (Bl.refl w).alloc _
  have HFt := Lib.hid (fun (wx : World) (hb : Bl w wx) => rfit_any t n s A len c ps Aw lw cw u wx B hlen hmax (hr.bl hB hb).prs hlw (by omega) (hrw.bl hB hb) (Nat.le_trans hB hb.size))
  have HK0 := Lib.hid (Bk.new w 24 #[.int .i64 t, .int .i64 n, .int .i64 s, .slice A len c])
  clear hlen hlw hr hrw
  by_cases h0 : k < 0
  · clear h
    go_enter Try.func12, Try.ntmps12
    go_wp2_with fail
    go_ret2
    exact ⟨none, 0, rfl, Nat.le_refl _, Rd.nil, HB0.out⟩
  · by_cases h2 : 2 < k
    · clear h
      go_enter Try.func12, Try.ntmps12
      go_wp2_with fail
      go_ret2
      exact ⟨none, 0, rfl, Nat.le_refl _, Rd.nil, HB0.out⟩
    · have hf : fitB ⟨t, n, s, ps⟩ u = false := by rcases h with h | h | h <;> first | exact absurd h h0 | exact absurd h h2 | exact h
      rw [hf] at HFt
      clear h hf
      go_enter Try.func12, Try.ntmps12
      go_wp2_with fail
      refine (HFt.out _ HB0.out).mono ?_
      rintro e w1 ⟨rfl, hb1⟩
      have HB1 := Lib.hid (HB0.out.trans hb1)
      clear hb1
      go_wp2_with fail
      go_ret2
      exact ⟨none, 0, rfl, Nat.le_refl _, Rd.nil, HB1.out⟩
theorem rlead_any (t n s : Int) (A : Option Addr) (len c : Nat) (ps : List Gr.Pr) (Aw : Option Addr) (lw cw : Nat) (u : List Int) (k : Int) (w : World) (B : Nat) (hlen : len = ps.length) (hmax : len ≤ 9223372036854775807) (hr : PrsC w B A ps) (hlw : lw = u.length) (hmw : lw ≤ 1000000) (hrw : Rd w B Aw (ins u)) (hB : B ≤ w.heap.size) :
    Calls Try.prog 12 #[.agg #[.int .i64 t, .int .i64 n, .int .i64 s, .slice A len c], .slice Aw lw cw, .int .i64 k] w (LPost (leadsOf ⟨t, n, s, ps⟩ u k) w) := by
  by_cases h : k < 0 ∨ 2 < k ∨ fitB ⟨t, n, s, ps⟩ u = false
  · rw [leadsOf_no h]
    exact rlead_no t n s A len c ps Aw lw cw u k w B hlen hmax hr hlw hmw hrw hB h
  · have hf : fitB ⟨t, n, s, ps⟩ u = true := by
      cases e : fitB ⟨t, n, s, ps⟩ u with
      | true => rfl
      | false => exact absurd (.inr (.inr e)) h
    obtain ⟨K, rfl⟩ : ∃ K : Nat, k = (K : Int) := ⟨k.toNat, by have h1 : ¬ k < 0 := fun h1 => h (.inl h1); omega⟩
    have hK : K ≤ 2 := by have h1 : ¬ (2 : Int) < (K : Int) := fun h1 => h (.inr (.inl h1)); omega
    rw [leadsOf_yes hK hf]
    exact rlead_yes t n s A len c ps Aw lw cw u K w B hlen hmax hr hlw hmw hrw hB hK hf

set_option maxRecDepth 100000 in
set_option maxHeartbeats 8000000 in
theorem leadTells_any (t n s : Int) (A : Option Addr) (len c : Nat) (ps : List Gr.Pr) (Al : Option Addr) (ll cl : Nat) (xs : List Int) (k : Int) (W : World) (hlen : len = ps.length) (hmax : len ≤ 9223372036854775807) (hr : PrsC W W.heap.size A ps)
    (hll : ll = xs.length) (hrl : Rd W W.heap.size Al (ins xs)) (hcl : ll ≤ cl) (hml : ll ≤ 9223372036854775807) :
    Calls Try.prog 3 #[.agg #[.int .i64 t, .int .i64 n, .int .i64 s, .slice A len c], .slice Al ll cl, .int .i64 k] W fun e w' => e = .returned (.bool true) ∧ Bl W w' := by
  have HB0 : Hid (Bl W (W.alloc (.cells #[.int .i64 t, .int .i64 n, .int .i64 s, .slice A len c] 24))) := (Bl.refl W).alloc _
  have HK0 := Lib.hid (Bk.new W 24 #[.int .i64 t, .int .i64 n, .int .i64 s, .slice A len c])
  have HL := Lib.hid hlen
  have HLL := Lib.hid hll
  have HPc : Hid (∀ w', Bl W w' → PrsC w' w'.heap.size A ps) := fun _ hb => lprs_on hr hb
  have HXc : Hid (∀ w', Bl W w' → Rd w' w'.heap.size Al (ins xs)) := fun _ hb => lrd_on hrl hb
  clear hlen hll hr hrl
  go_enter Try.func3, Try.ntmps3
  go_wp2_with fail
  refine (awake17_any _).mono ?_
  rintro e w1 ⟨rfl, hb1⟩
  have HB1 := Lib.hid (HB0.out.trans hb1)
  have HK1 := Lib.hid (HK0.out.bl hb1)
  clear hb1 HB0 HK0
  have k0 : w1.cell? ⟨W.heap.size, 0, none⟩ = some (.int .i64 t) := HK1.out.cell 0
  have k1 : w1.cell? ⟨W.heap.size, 1, none⟩ = some (.int .i64 n) := HK1.out.cell 1
  have k2 : w1.cell? ⟨W.heap.size, 2, none⟩ = some (.int .i64 s) := HK1.out.cell 2
  have k3 : w1.cell? ⟨W.heap.size, 3, none⟩ = some (.slice A len c) := HK1.out.cell 3
  have kl := HK1.out.lt
  go_wp2_with fail
  refine (large17_any t n s A len c ps Al ll cl w1 w1.heap.size HL.out hmax hml (HPc.out w1 HB1.out).prs (Nat.le_refl _)).mono ?_
  rintro e w2 ⟨rfl, hb2⟩
  have HB2 := Lib.hid (HB1.out.trans hb2)
  have HK2 := Lib.hid (HK1.out.bl hb2)
  clear hb2 HB1 HK1 k0 k1 k2 k3 kl
  cases hl : lg17 ps ll with
  | true =>
    go_wp2_with fail
    go_ret
    exact ⟨rfl, HB2.out⟩
  | false =>
  have hl40 : ll ≤ 40 := by
    unfold lg17 at hl
    rw [Bool.or_eq_false_iff] at hl
    have h := of_decide_eq_false hl.2
    omega
  clear hl
  have k0 : w2.cell? ⟨W.heap.size, 0, none⟩ = some (.int .i64 t) := HK2.out.cell 0
  have k1 : w2.cell? ⟨W.heap.size, 1, none⟩ = some (.int .i64 n) := HK2.out.cell 1
  have k2 : w2.cell? ⟨W.heap.size, 2, none⟩ = some (.int .i64 s) := HK2.out.cell 2
  have k3 : w2.cell? ⟨W.heap.size, 3, none⟩ = some (.slice A len c) := HK2.out.cell 3
  have kl := HK2.out.lt
  go_wp2_with fail
  refine (rfit_any t n s A len c ps Al ll cl xs w2 w2.heap.size HL.out hmax (HPc.out w2 HB2.out).prs HLL.out hml (HXc.out w2 HB2.out) (Nat.le_refl _)).mono ?_
  rintro e w3 ⟨rfl, hb3⟩
  have HB3 := Lib.hid (HB2.out.trans hb3)
  have HK3 := Lib.hid (HK2.out.bl hb3)
  clear hb3 HB2 HK2 k0 k1 k2 k3 kl
  have k0 : w3.cell? ⟨W.heap.size, 0, none⟩ = some (.int .i64 t) := HK3.out.cell 0
  have k1 : w3.cell? ⟨W.heap.size, 1, none⟩ = some (.int .i64 n) := HK3.out.cell 1
  have k2 : w3.cell? ⟨W.heap.size, 2, none⟩ = some (.int .i64 s) := HK3.out.cell 2
  have k3 : w3.cell? ⟨W.heap.size, 3, none⟩ = some (.slice A len c) := HK3.out.cell 3
  have kl := HK3.out.lt
  cases hf : fitB ⟨t, n, s, ps⟩ xs with
  | false =>
    clear hf
    have HLd := Lib.hid (lead_any t n s A len c ps Al ll cl xs k w3 w3.heap.size HL.out hmax (HPc.out w3 HB3.out) HLL.out (by omega) hcl (HXc.out w3 HB3.out) (Nat.le_refl _))
    have HRl : Hid (∀ wx, Bl w3 wx → Calls Try.prog 12 #[.agg #[.int .i64 t, .int .i64 n, .int .i64 s, .slice A len c], .slice Al ll cl, .int .i64 k] wx (LPost (leadsOf ⟨t, n, s, ps⟩ xs k) wx)) := fun wx hb =>
      rlead_any t n s A len c ps Al ll cl xs k wx wx.heap.size HL.out hmax (HPc.out wx (HB3.out.trans hb)) HLL.out (by omega) (HXc.out wx (HB3.out.trans hb)) (Nat.le_refl _)
    have hln := leadsOf_len ⟨t, n, s, ps⟩ xs k
    generalize leadsOf ⟨t, n, s, ps⟩ xs k = x at *
    obtain ⟨l, en⟩ := x
    have HLn : Hid (l.length ≤ 2000) := hln
    clear hln
    go_wp2_with fail
    refine HLd.out.mono ?_
    rintro e w5 ⟨A5, c5, rfl, hc5, hr5, hb5⟩
    have HR5 := Lib.hid hr5
    have HB5 := Lib.hid hb5
    have HK5 := Lib.hid (HK3.out.bl hb5)
    clear hr5 hb5 k0 k1 k2 k3 kl HLd
    have k0 : w5.cell? ⟨W.heap.size, 0, none⟩ = some (.int .i64 t) := HK5.out.cell 0
    have k1 : w5.cell? ⟨W.heap.size, 1, none⟩ = some (.int .i64 n) := HK5.out.cell 1
    have k2 : w5.cell? ⟨W.heap.size, 2, none⟩ = some (.int .i64 s) := HK5.out.cell 2
    have k3 : w5.cell? ⟨W.heap.size, 3, none⟩ = some (.slice A len c) := HK5.out.cell 3
    have kl := HK5.out.lt
    go_wp2_with fail
    refine (HRl.out _ HB5.out).mono ?_
    rintro e w6 ⟨A6, c6, rfl, hc6, hr6, hb6⟩
    have HR6 := Lib.hid hr6
    have HR5 := Lib.hid (lrd_on HR5.out hb6)
    have HB6 := Lib.hid (HB5.out.trans hb6)
    clear hr6 hb6 k0 k1 k2 k3 kl HRl HB5 HK5
    go_wp2_with fail
    have HSm := Lib.hid (isame_any A5 A6 l.length l.length c5 c6 l l w6 w6.heap.size rfl rfl (by have := HLn.out; omega) HR5.out HR6.out)
    rw [show decide (l = l) = true from decide_eq_true rfl] at HSm
    refine HSm.out.mono ?_
    rintro e w7 ⟨rfl, q, hq⟩
    have HB7 : Hid (Bl W w7) := by rw [hq]; exact (HB3.out.trans HB6.out).drewN _
    clear hq
    go_wp2_with fail
    go_ret
    exact ⟨rfl, HB7.out⟩
  | true =>
    obtain ⟨hok, hv, h24⟩ := fit_good hf
    have HCs := Lib.hid (costs_any t n s A len c ps w3 w3.heap.size HL.out hmax (HPc.out w3 HB3.out).prs (Nat.le_refl _) hok hv)
    clear hf hok hv h24
    go_wp2_with fail
    refine HCs.out.mono ?_
    rintro e w4 ⟨⟨bq, rfl⟩, hb4⟩
    have HB4 := Lib.hid (HB3.out.trans hb4)
    have HK4 := Lib.hid (HK3.out.bl hb4)
    clear hb4 HCs k0 k1 k2 k3 kl HB3 HK3
    have k0 : w4.cell? ⟨W.heap.size, 0, none⟩ = some (.int .i64 t) := HK4.out.cell 0
    have k1 : w4.cell? ⟨W.heap.size, 1, none⟩ = some (.int .i64 n) := HK4.out.cell 1
    have k2 : w4.cell? ⟨W.heap.size, 2, none⟩ = some (.int .i64 s) := HK4.out.cell 2
    have k3 : w4.cell? ⟨W.heap.size, 3, none⟩ = some (.slice A len c) := HK4.out.cell 3
    have kl := HK4.out.lt
    cases bq with
    | true =>
      go_wp2_with fail
      go_ret
      exact ⟨rfl, HB4.out⟩
    | false =>
      have HLd := Lib.hid (lead_any t n s A len c ps Al ll cl xs k w4 w4.heap.size HL.out hmax (HPc.out w4 HB4.out) HLL.out (by omega) hcl (HXc.out w4 HB4.out) (Nat.le_refl _))
      have HRl : Hid (∀ wx, Bl w4 wx → Calls Try.prog 12 #[.agg #[.int .i64 t, .int .i64 n, .int .i64 s, .slice A len c], .slice Al ll cl, .int .i64 k] wx (LPost (leadsOf ⟨t, n, s, ps⟩ xs k) wx)) := fun wx hb =>
        rlead_any t n s A len c ps Al ll cl xs k wx wx.heap.size HL.out hmax (HPc.out wx (HB4.out.trans hb)) HLL.out (by omega) (HXc.out wx (HB4.out.trans hb)) (Nat.le_refl _)
      have hln := leadsOf_len ⟨t, n, s, ps⟩ xs k
      generalize leadsOf ⟨t, n, s, ps⟩ xs k = x at *
      obtain ⟨l, en⟩ := x
      have HLn : Hid (l.length ≤ 2000) := hln
      clear hln
      go_wp2_with fail
      refine HLd.out.mono ?_
      rintro e w5 ⟨A5, c5, rfl, hc5, hr5, hb5⟩
      have HR5 := Lib.hid hr5
      have HB5 := Lib.hid hb5
      have HK5 := Lib.hid (HK4.out.bl hb5)
      clear hr5 hb5 k0 k1 k2 k3 kl HLd
      have k0 : w5.cell? ⟨W.heap.size, 0, none⟩ = some (.int .i64 t) := HK5.out.cell 0
      have k1 : w5.cell? ⟨W.heap.size, 1, none⟩ = some (.int .i64 n) := HK5.out.cell 1
      have k2 : w5.cell? ⟨W.heap.size, 2, none⟩ = some (.int .i64 s) := HK5.out.cell 2
      have k3 : w5.cell? ⟨W.heap.size, 3, none⟩ = some (.slice A len c) := HK5.out.cell 3
      have kl := HK5.out.lt
      go_wp2_with fail
      refine (HRl.out _ HB5.out).mono ?_
      rintro e w6 ⟨A6, c6, rfl, hc6, hr6, hb6⟩
      have HR6 := Lib.hid hr6
      have HR5 := Lib.hid (lrd_on HR5.out hb6)
      have HB6 := Lib.hid (HB5.out.trans hb6)
      clear hr6 hb6 k0 k1 k2 k3 kl HRl HB5 HK5
      go_wp2_with fail
      have HSm := Lib.hid (isame_any A5 A6 l.length l.length c5 c6 l l w6 w6.heap.size rfl rfl (by have := HLn.out; omega) HR5.out HR6.out)
      rw [show decide (l = l) = true from decide_eq_true rfl] at HSm
      refine HSm.out.mono ?_
      rintro e w7 ⟨rfl, q, hq⟩
      have HB7 : Hid (Bl W w7) := by rw [hq]; exact (HB4.out.trans HB6.out).drewN _
      clear hq
      go_wp2_with fail
      go_ret
      exact ⟨rfl, HB7.out⟩
end Go.Proofs.Ytpblamiiggglaaa
