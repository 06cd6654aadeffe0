/- LeadBy: by a word's rows the same is told. -/
import Derived.Test.YtpblamiiggglaaaLdAwk
namespace Go.Proofs.Ytpblamiiggglaaa
open Go.RowKit

theorem leadOf_len (g : Gr.Gm) (u : List Int) (K : Nat) : (leadOf g u K).1.length ≤ 2000 := by
  unfold leadOf
  split
  · split
    · exact Nat.zero_le _
    · rename_i h
      exact Nat.le_trans (Nat.le_of_eq (ns_len _)) (Ld.lead_len h)
  · exact Nat.zero_le _
set_option maxRecDepth 100000 in
set_option maxHeartbeats 8000000 in
theorem leadBy_any (t n s : Int) (A : Option Addr) (len c : Nat) (ps : List Gr.Pr) (Al : Option Addr) (ll cl : Nat) (xs : List Int) (W : World) (hlen : len = ps.length) (hmax : len ≤ 9223372036854775807) (hr : PrsC W W.heap.size A ps)
    (hll : ll = xs.length) (hrl : Rd W W.heap.size Al (ins xs)) (hcl : ll ≤ cl) (hml : ll ≤ 9223372036854775807) :
    Calls Try.prog 6 #[.agg #[.int .i64 t, .int .i64 n, .int .i64 s, .slice A len c], .slice Al ll cl] W fun e w' => e = .returned (.bool true) ∧ Bl W w' := by
  have HB0 : Hid (Bl W (W.alloc (.cells #[.int .i64 t, .int .i64 n, .int .i64 s, .slice A len c] 24))) := (Bl.refl W).alloc _
  have HK0 := Lib.hid (Bk.new W 24 #[.int .i64 t, .int .i64 n, .int .i64 s, .slice A len c])
  have HL := Lib.hid hlen
  have HLL := Lib.hid hll
  have HPc : Hid (∀ w', Bl W w' → PrsC w' w'.heap.size A ps) := fun _ hb => lprs_on hr hb
  have HXc : Hid (∀ w', Bl W w' → Rd w' w'.heap.size Al (ins xs)) := fun _ hb => lrd_on hrl hb
  clear hlen hll hr hrl
  go_enter Try.func6, Try.ntmps6
  go_wp2_with fail
  refine (awake17_any _).mono ?_
  rintro e w1 ⟨rfl, hb1⟩
  have HB1 := Lib.hid (HB0.out.trans hb1)
  have HK1 := Lib.hid (HK0.out.bl hb1)
  clear hb1 HB0 HK0
  have k0 : w1.cell? ⟨W.heap.size, 0, none⟩ = some (.int .i64 t) := HK1.out.cell 0
  have k1 : w1.cell? ⟨W.heap.size, 1, none⟩ = some (.int .i64 n) := HK1.out.cell 1
  have k2 : w1.cell? ⟨W.heap.size, 2, none⟩ = some (.int .i64 s) := HK1.out.cell 2
  have k3 : w1.cell? ⟨W.heap.size, 3, none⟩ = some (.slice A len c) := HK1.out.cell 3
  have kl := HK1.out.lt
  go_wp2_with fail
  refine (large17_any t n s A len c ps Al ll cl w1 w1.heap.size HL.out hmax hml (HPc.out w1 HB1.out).prs (Nat.le_refl _)).mono ?_
  rintro e w2 ⟨rfl, hb2⟩
  have HB2 := Lib.hid (HB1.out.trans hb2)
  have HK2 := Lib.hid (HK1.out.bl hb2)
  clear hb2 HB1 HK1 k0 k1 k2 k3 kl
  cases hl : lg17 ps ll with
  | true =>
    go_wp2_with fail
    go_ret
    exact ⟨rfl, HB2.out⟩
  | false =>
  clear hl
  have k0 : w2.cell? ⟨W.heap.size, 0, none⟩ = some (.int .i64 t) := HK2.out.cell 0
  have k1 : w2.cell? ⟨W.heap.size, 1, none⟩ = some (.int .i64 n) := HK2.out.cell 1
  have k2 : w2.cell? ⟨W.heap.size, 2, none⟩ = some (.int .i64 s) := HK2.out.cell 2
  have k3 : w2.cell? ⟨W.heap.size, 3, none⟩ = some (.slice A len c) := HK2.out.cell 3
  have kl := HK2.out.lt
  go_wp2_with fail
  refine (rfit_any t n s A len c ps Al ll cl xs w2 w2.heap.size HL.out hmax (HPc.out w2 HB2.out).prs HLL.out hml (HXc.out w2 HB2.out) (Nat.le_refl _)).mono ?_
  rintro e w3 ⟨rfl, hb3⟩
  have HB3 := Lib.hid (HB2.out.trans hb3)
  have HK3 := Lib.hid (HK2.out.bl hb3)
  clear hb3 HB2 HK2 k0 k1 k2 k3 kl
  cases hf : fitB ⟨t, n, s, ps⟩ xs with
  | false =>
    clear hf
    go_wp2_with fail
    go_ret
    exact ⟨rfl, HB3.out⟩
  | true =>
  have hl24 : ll ≤ 24 := by have h := (fit_good hf).2.2; have := HLL.out; omega
  have HF := Lib.hid hf
  clear hf
  have k0 : w3.cell? ⟨W.heap.size, 0, none⟩ = some (.int .i64 t) := HK3.out.cell 0
  have k1 : w3.cell? ⟨W.heap.size, 1, none⟩ = some (.int .i64 n) := HK3.out.cell 1
  have k2 : w3.cell? ⟨W.heap.size, 2, none⟩ = some (.int .i64 s) := HK3.out.cell 2
  have k3 : w3.cell? ⟨W.heap.size, 3, none⟩ = some (.slice A len c) := HK3.out.cell 3
  have kl := HK3.out.lt
  go_wp2_with fail
  refine (sprows_any t n s A len c ps Al ll cl xs w3 w3.heap.size HL.out hmax (HPc.out w3 HB3.out) HLL.out (by omega) hcl (HXc.out w3 HB3.out) (Nat.le_refl _)).mono ?_
  rintro e w4 ⟨hp4, -, hb4⟩
  obtain ⟨b, he, hbx, hn⟩ := hp4 HF.out
  rw [← HLL.out] at he
  subst he
  have HB4 := Lib.hid (HB3.out.trans hb4)
  have HK4 := Lib.hid (HK3.out.bl hb4)
  have HN4 := Lib.hid (hn.rd)
  rw [← HLL.out] at HN4

  clear hb4 hp4 hn hbx HB3 HK3 k0 k1 k2 k3 kl
  go_wp2_with fail
  go_loopw [6] (fun v wr => ∃ k : Nat, k ≤ 3 ∧ v = .int .i64 (k : Int) ∧ Hid (Bl w4 wr)) (fun v _ => 3 - (intOf v).toNat)
  case atStart => exact ⟨0, by omega, rfl, Bl.refl _⟩
  case round =>
    obtain ⟨k, hk, rfl, HBr⟩ := hrel
    have HBw := Lib.hid (HB4.out.trans HBr.out)
    have HKr := Lib.hid (HK4.out.bl HBr.out)
    have k0 : wr.cell? ⟨W.heap.size, 0, none⟩ = some (.int .i64 t) := HKr.out.cell 0
    have k1 : wr.cell? ⟨W.heap.size, 1, none⟩ = some (.int .i64 n) := HKr.out.cell 1
    have k2 : wr.cell? ⟨W.heap.size, 2, none⟩ = some (.int .i64 s) := HKr.out.cell 2
    have k3 : wr.cell? ⟨W.heap.size, 3, none⟩ = some (.slice A len c) := HKr.out.cell 3
    have kl := HKr.out.lt
    by_cases hlt : k < 3
    · have hle : (k : Int) ≤ 2 := by omega
      have HLd := Lib.hid (lead_any t n s A len c ps Al ll cl xs (k : Int) wr wr.heap.size HL.out hmax (HPc.out wr HBw.out) HLL.out (by omega) hcl (HXc.out wr HBw.out) (Nat.le_refl _))
      rw [leadsOf_yes (by omega) HF.out] at HLd
      have HBy : Hid (∀ wx, Bl wr wx → Calls Try.prog 19 #[.agg #[.int .i64 t, .int .i64 n, .int .i64 s, .slice A len c], .slice Al ll cl, .int .i64 (k : Int), .slice (some ⟨b, 0, none⟩) (ll + 1) (ll + 1)] wx (LPost (leadOf ⟨t, n, s, ps⟩ xs k) wx)) := fun wx hb =>
        lby_any t n s A len c ps Al ll cl xs k (some ⟨b, 0, none⟩) (ll + 1) wx wx.heap.size HL.out hmax (HPc.out wx (HBw.out.trans hb)).prs HLL.out (HXc.out wx (HBw.out.trans hb)) (Nat.le_refl _) HF.out (lrd_on HN4.out (HBr.out.trans hb)) (by omega)

      have hln := leadOf_len ⟨t, n, s, ps⟩ xs k
      generalize leadOf ⟨t, n, s, ps⟩ xs k = x at *
      obtain ⟨l, en⟩ := x
      have HLn : Hid (l.length ≤ 2000) := hln
      clear hln
      go_wp2_with fail
      refine HLd.out.mono ?_
      rintro e w5 ⟨A5, c5, rfl, hc5, hr5, hb5⟩
      have HR5 := Lib.hid hr5
      have HB5 := Lib.hid hb5
      have HK5 := Lib.hid (HKr.out.bl hb5)
      clear hr5 hb5 k0 k1 k2 k3 kl HLd
      have k0 : w5.cell? ⟨W.heap.size, 0, none⟩ = some (.int .i64 t) := HK5.out.cell 0
      have k1 : w5.cell? ⟨W.heap.size, 1, none⟩ = some (.int .i64 n) := HK5.out.cell 1
      have k2 : w5.cell? ⟨W.heap.size, 2, none⟩ = some (.int .i64 s) := HK5.out.cell 2
      have k3 : w5.cell? ⟨W.heap.size, 3, none⟩ = some (.slice A len c) := HK5.out.cell 3
      have kl := HK5.out.lt
      go_wp2_with fail
      refine (HBy.out _ HB5.out).mono ?_
      rintro e w6 ⟨A6, c6, rfl, hc6, hr6, hb6⟩
      have HR6 := Lib.hid hr6
      have HR5 := Lib.hid (lrd_on HR5.out hb6)
      have HB6 := Lib.hid (HB5.out.trans hb6)
      clear hr6 hb6 k0 k1 k2 k3 kl HBy HB5 HK5
      go_wp2_with fail
      have HSm := Lib.hid (isame_any A5 A6 l.length l.length c5 c6 l l w6 w6.heap.size rfl rfl (by have := HLn.out; omega) HR5.out HR6.out)
      rw [show decide (l = l) = true from decide_eq_true rfl] at HSm
      refine HSm.out.mono ?_
      rintro e w7 ⟨rfl, q, hq⟩
      have HB7 : Hid (Bl w4 w7) := by rw [hq]; exact (HBr.out.trans HB6.out).drewN _
      clear hq
      go_wp2_with fail
      go_roundw
      case rel => exact ⟨k + 1, by omega, by go_num, HB7.out⟩
      case measure => simp [intOf]; omega
    · go_wp2_with fail
      go_ret
      exact ⟨rfl, HBw.out⟩
end Go.Proofs.Ytpblamiiggglaaa
