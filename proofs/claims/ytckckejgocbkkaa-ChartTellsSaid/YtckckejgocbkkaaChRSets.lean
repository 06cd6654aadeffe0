/- The reference's Sets: over and over, till nothing is new. -/
import Derived.Test.YtckckejgocbkkaaChRTab
import Derived.Test.YtckckejgocbkkaaWordS
import Derived.Deep.LoopGhost
namespace Go.Proofs.Ytckckejgocbkkaa
open Go.RowKit

theorem insAll_len : ∀ (l S : List Ch.Im), (Ch.insAll S l).length ≤ S.length + l.length
  | [], S => by simp [Ch.insAll]
  | x :: l, S => by
    have h1 := insAll_len l (Ch.insI x S)
    have h2 := Ch.insI_le (x := x) S
    show (Ch.insAll (Ch.insI x S) l).length ≤ _
    rw [List.length_cons]; omega
theorem s0_nil : Ch.S0of [] = fun _ => [] := by
  unfold Ch.S0of Ch.insAll
  funext j
  unfold Ch.upd
  split <;> rfl
theorem s0_len (l : List Ch.Im) : (Ch.S0of l 0).length ≤ l.length := by
  unfold Ch.S0of
  rw [Ch.upd_same]
  have := insAll_len l []
  simpa using this
theorem set_infoR : (Try.prog.info? 26).map (fun i => (i.zero, i.size, i.bytes)) = some (some (.slice none 0 0), 1, 24) := by kernel_rfl

set_option maxRecDepth 100000 in
set_option maxHeartbeats 16000000 in
theorem rsets_any (t n s : Int) (A : Option Addr) (len c : Nat) (ps : List Gr.Pr) (Aw : Option Addr) (lw cw : Nat) (xs : List Int) (w : World) (B : Nat) (hlen : len = ps.length) (hmax : len ≤ 9223372036854775807) (hr : Prs w B A ps) (hlw : lw = xs.length) (hmw : lw ≤ 9223372036854775807) (hrw : Rd w B Aw (ins xs)) (hB : B ≤ w.heap.size) :
    Calls Try.prog 12 #[.agg #[.int .i64 t, .int .i64 n, .int .i64 s, .slice A len c], .slice Aw lw cw] w (SetsP ⟨t, n, s, ps⟩ xs w) := by
  obtain ⟨i0, hi, hz0, hz1, hz2⟩ := info_parts im_info
  obtain ⟨s0, si, sz0, sz1, sz2⟩ := info_parts set_infoR
  have HB0 : Hid (Bl w (w.alloc (.cells #[.int .i64 t, .int .i64 n, .int .i64 s, .slice A len c] 24))) := (Bl.refl w).alloc _
  have HK0 := Lib.hid (Bk.new w 24 #[.int .i64 t, .int .i64 n, .int .i64 s, .slice A len c])
  have HFit := Lib.hid (rfit_any t n s A len c ps Aw lw cw xs (w.alloc (.cells #[.int .i64 t, .int .i64 n, .int .i64 s, .slice A len c] 24)) B hlen hmax (hr.bl hB HB0.out) hlw hmw (hrw.bl hB HB0.out) (Nat.le_trans hB HB0.out.size))
  have HR := Lib.hid (fun (wx : World) (hb : Bl w wx) => (hr.bl hB hb).more (Nat.le_trans hB hb.size))
  have HRw := Lib.hid (fun (wx : World) (hb : Bl w wx) => (hrw.bl hB hb).more (Nat.le_trans hB hb.size))
  have HL := Lib.hid hlen
  have HLw := Lib.hid hlw
  clear hr hrw hlen hlw
  go_enter Try.func12, Try.ntmps12
  have k0 := HK0.out.cell 0
  have k1 := HK0.out.cell 1
  have k2 := HK0.out.cell 2
  have k3 := HK0.out.cell 3
  go_wp2_with fail
  refine HFit.out.mono ?_
  rintro e w1 ⟨rfl, hb1⟩
  have HB1 := Lib.hid (HB0.out.trans hb1)
  have HK1 := Lib.hid (HK0.out.bl hb1)
  clear hb1 k0 k1 k2 k3 HB0 HK0 HFit
  cases hf : fitB ⟨t, n, s, ps⟩ xs with
  | false =>
    have HNo := Lib.hid hf
    clear hf
    go_wp2_with fail
    go_ret
    exact ⟨none, [], 0, rfl, Nat.le_refl _, SetsR.nil _, HB1.out, (fun h => by rw [HNo.out] at h; cases h), fun _ => rfl⟩
  | true =>
  have HYes := Lib.hid hf
  have HOk := Lib.hid (fit_good hf).1
  have h24 : lw ≤ 24 := by have h := (fit_good hf).2.2; have := HLw.out; omega
  have h60 : len ≤ 60 := by have h := HOk.out.2.2.2.2.2.2.1; have := HL.out; simp only at h; omega
  have HRl : Hid (∀ i (h : i < ps.length), ps[i].right.length ≤ 1000) := fun i h => Nat.le_trans (HOk.out.2.2.2.2.2.2.2 _ (List.getElem_mem h)).2.2.1 (by omega)
  clear hf
  have k0 : w1.cell? ⟨w.heap.size, 0, none⟩ = some (.int .i64 t) := HK1.out.cell 0
  have k1 : w1.cell? ⟨w.heap.size, 1, none⟩ = some (.int .i64 n) := HK1.out.cell 1
  have k2 : w1.cell? ⟨w.heap.size, 2, none⟩ = some (.int .i64 s) := HK1.out.cell 2
  have k3 : w1.cell? ⟨w.heap.size, 3, none⟩ = some (.slice A len c) := HK1.out.cell 3
  have kl := HK1.out.lt
  have hwr : IntKind.i64.wrap ((lw : Int) + 1) = (lw : Int) + 1 := by rw [IntKind.wrap_i64]; omega
  go_wp2_with (refine wpList_make_full _ rfl (.tmp 23) (.tmp 23) 33 rfl w1.heap.size 26 s0 (.slice none 0 0) 1 Try.underlying33 si sz0 sz1 .i64 .i64 ((lw : Int) + 1) ((lw : Int) + 1) (lw + 1) rfl rfl (by omega) (by omega) (by rw [sz2]; omega) (by simp only [maxLen]; omega) (Nat.le_refl _) ?_; intro w2 hown1 hg1; have hT := tab_new hown1; have HT0 := Lib.hid hT.1; have HBh : Hid (Bl w1 w2) := (Bl.refl w1).grown hg1 (by simp); have HK2 := Lib.hid (HK1.out.bl HBh.out); have k0 : w2.cell? ⟨w.heap.size, 0, none⟩ = some (.int .i64 t) := HK2.out.cell 0; have k1 : w2.cell? ⟨w.heap.size, 1, none⟩ = some (.int .i64 n) := HK2.out.cell 1; have k2 : w2.cell? ⟨w.heap.size, 2, none⟩ = some (.int .i64 s) := HK2.out.cell 2; have k3 : w2.cell? ⟨w.heap.size, 3, none⟩ = some (.slice A len c) := HK2.out.cell 3; have kl := HK2.out.lt; clear hown1 hg1 hT)
  have HBw2 := Lib.hid (HB1.out.trans HBh.out)
  refine (roft_any t n s s A len c ps w2 w2.heap.size HL.out (by omega) (HR.out w2 HBw2.out) (Nat.le_refl _)).mono ?_
  rintro e w3 ⟨A5, c5, rfl, hc5, hown5, hb5⟩
  have hlst : ofK ps s ps.length = Ch.ofN ps s := rfl
  rw [hlst] at hown5 ⊢
  have HTake := Lib.hid (fun (k : Nat) => begs_take (g := ⟨t, n, s, ps⟩) (a := 0) (n := s) (k := k))
  have HBl : Hid ((Ch.begs ⟨t, n, s, ps⟩ 0 s).length = (Ch.ofN ps s).length) := by show _ = _; unfold Ch.begs; rw [List.length_map]
  have hl9 : (ns (Ch.ofN ps s)).length ≤ 60 := by rw [ns_len]; have h1 := ofK_len ps s ps.length; rw [hlst] at h1; have := HL.out; omega
  have HN5 : Hid ((Ch.ofN ps s).length = (ns (Ch.ofN ps s)).length) := (ns_len _).symm
  have HRd5 := Lib.hid (Rd.own hown5)
  have HT3 := Lib.hid (HT0.out.bl hb5)
  have HB13 := Lib.hid (HBh.out.trans hb5)
  have HFst := Lib.hid (Ch.Rnd.first (g := ⟨t, n, s, ps⟩) (w := xs) (m := lw + 1))
  clear hown5 hb5 hlst k0 k1 k2 k3 kl HT0 HK2 HBh HBw2 hc5
  generalize (ns (Ch.ofN ps s)).length = N5 at *
  generalize Ch.ofN ps s = lst at *
  obtain ⟨bg, hbg⟩ : ∃ bg, bg = Ch.begs ⟨t, n, s, ps⟩ 0 s := ⟨_, rfl⟩
  rw [← hbg] at HTake HBl
  have HFst2 : Hid (Ch.Rnd ⟨t, n, s, ps⟩ xs (lw + 1) (Ch.S0of bg) (Ch.S0of bg) false True) := by rw [hbg]; exact HFst.out
  clear hbg HFst
  have hbg60 : bg.length ≤ 60 := by have := HBl.out; have := HN5.out; omega
  have HTb : Hid (w1.heap.size ≤ w1.heap.size) := Nat.le_refl _
  generalize htb : w1.heap.size = tb at HT3 HTb ⊢
  have HTbe := Lib.hid htb
  clear htb
  rw [← s0_nil] at HT3
  go_wp2_with fail
  go_loopw [7] (fun i wr => ∃ k : Nat, k ≤ N5 ∧ i = .int .i64 (k : Int) ∧ Hid (TabO wr tb (lw + 1) (Ch.S0of (bg.take k))) ∧ Hid (Rd wr wr.heap.size A5 (ins (ns lst))) ∧ Hid (Bl w1 wr)) (fun i _ => N5 - (intOf i).toNat)
  case atStart => exact ⟨0, Nat.zero_le _, rfl, HT3.out, HRd5.out, HB13.out⟩
  case round =>
    obtain ⟨k, hk, rfl, HT, HRi, HBr⟩ := hrel
    by_cases hlt : k < N5
    · have hik : (k : Int) < (N5 : Int) := by omega
      have hk0 : (0 : Int) ≤ (k : Int) := by omega
      have hkl : k < lst.length := by have := HN5.out; omega
      have hkn : k < (ns lst).length := by rw [ns_len]; exact hkl
      obtain ⟨bl, ol, hA5, hbl, q0⟩ := HRi.out.int hkn
      have e9 : (ns lst)[k] = (lst[k] : Int) := by simp [ns]
      rw [e9] at q0
      have HE := Lib.hid (HTake.out k hkl)
      subst hA5
      generalize lst[k] = jn at *
      clear hkn e9 hkl
      have HSl : Hid ((Ch.S0of (bg.take k) 0).length ≤ 60) := Nat.le_trans (s0_len _) (by rw [List.length_take]; omega)
      have HS1 : Hid (Ch.upd (Ch.S0of (bg.take k)) 0 (Ch.insI ⟨jn, 0, 0⟩ (Ch.S0of (bg.take k) 0)) = Ch.S0of (bg.take (k + 1))) := by
        show _ = _
        rw [HE.out, Ch.s0_all]; rfl
      generalize Ch.S0of (bg.take k) = S at *
      generalize hS9 : Ch.S0of (bg.take (k + 1)) = S9 at *
      have HS9 := Lib.hid hS9
      clear hS9
      obtain ⟨A0, c0, z0, hz, hr0⟩ := HT.out.tabR.2 0 (Nat.succ_pos _)
      have HTd : Hid (TabO wr.drew tb (lw + 1) S) := HT.out.bl (Bl.refl wr).drew
      have HAd : Hid (Calls Try.prog 25 #[.slice A0 (S 0).length c0, .agg #[.int .i64 (jn : Int), .int .i64 0, .int .i64 0]] wr.drew (AddP (S 0) ⟨jn, 0, 0⟩ wr.drew)) := radd_any A0 (S 0).length c0 (S 0) ⟨jn, 0, 0⟩ wr.drew wr.heap.size rfl (by have := HSl.out; omega) hz hr0 (Nat.le_refl _)
      have HRid : Hid (Rd wr.drew wr.drew.heap.size (some ⟨bl, ol, none⟩) (ins (ns lst))) := HRi.out
      have tlt : tb < wr.heap.size := HT.out.lt
      have z0d : wr.drew.cell? ⟨tb, 0, none⟩ = some (.slice A0 (S 0).length c0) := z0
      have q0d : wr.drew.cell? ⟨bl, ol + k, none⟩ = some (.int .i64 (jn : Int)) := q0
      have hm0 : (0 : Int) < (lw : Int) + 1 := by omega
      have hm1 : (0 : Int) < ((lw + 1 : Nat) : Int) := by omega
      have tk1 : True := trivial
      clear hr0 hz
      generalize (S 0).length = n0 at *
      go_upto_region 8 with fail
      go_region_law (first
        | (go_simp; go_at_call 25; have _t := tk1; ((with_reducible refine HAd.out.mono ?_); rintro e w5 ⟨A6, c6, rfl, hc6, hr6, hb6⟩; have HT6 := Lib.hid (HTd.out.bl hb6); have HRi6 := Lib.hid (rd_on HRid.out hb6); have HB6 : Hid (Bl w1 w5) := HBr.out.trans (Bl.undrew hb6); have HR6 := Lib.hid hr6; have HC6 := Lib.hid hc6; obtain ⟨A7, c7, q1, _⟩ := HT6.out.tabR.2 0 (Nat.succ_pos _); have q2 := HT6.out.free 0; have q3 := HT6.out.lt; clear tk1 hb6 hr6 hc6))
        | fail)
      all_goals
        have HT7 := Lib.hid (HT6.out.put (Nat.succ_pos _) HR6.out HC6.out)
        rw [HS1.out] at HT7
        have HB7 : Hid (Bl w1 (w5.setCell ⟨tb, 0, none⟩ (.slice A6 (Ch.insI ⟨jn, 0, 0⟩ (S 0)).length c6))) := Bl.fr HB6.out ((Fr.refl (fun k => k = tb) w5).own _ _) (fun i hi e => by have := HTbe.out; omega)
        have HRi7 := Lib.hid (HT6.out.keep HRi6.out (ints_ins _) ((Fr.refl (fun k => k = tb) w5).own 0 (.slice A6 (Ch.insI ⟨jn, 0, 0⟩ (S 0)).length c6)))
        go_wp2_with fail
        go_roundw
        case rel => exact ⟨k + 1, by omega, by go_num, by rw [HS9.out]; exact HT7.out, HRi7.out, HB7.out⟩
        case measure => simp [intOf]; omega
    · have hik : ¬ (k : Int) < (N5 : Int) := by omega
      have hkb : bg.take k = bg := List.take_of_length_le (by have := HBl.out; have := HN5.out; omega)
      rw [hkb] at HT
      clear hkb HRi
      go_wp2_with fail
      go_loopg [8] ((lw + 1) * 13500 + 1) (fun gA v wr => ∃ (S : Nat → List Ch.Im) (b : Bool), v = .bool b ∧ Hid (TabO wr tb (lw + 1) S) ∧ Hid (Ch.Rnd ⟨t, n, s, ps⟩ xs (lw + 1) S S false True) ∧ Hid (b = false → ∀ a, a ≤ xs.length → Ch.Inc (S a) ∧ ∀ x, x ∈ S a ↔ Ch.It ⟨t, n, s, ps⟩ xs a x) ∧ Hid ((lw + 1) * 13500 + b.toNat ≤ gA + Ch.tot (lw + 1) S) ∧ Hid (Bl w1 wr))
      case atStart => exact ⟨_, true, rfl, HT.out, HFst2.out, (fun h => by cases h), (by show _ ≤ _; simp), HBr.out⟩
      case round =>
        clear HT HBr HTake HBl hbg60 hl9 HN5 hk HFst2
        obtain ⟨S, b, rfl, HT, HRn, HFin, HG, HBr⟩ := hrel
        cases b with
        | false =>
          have HRes : Hid (SetsP ⟨t, n, s, ps⟩ xs w (.returned (.slice (some ⟨tb, 0, none⟩) (lw + 1) (lw + 1))) wr) := by
            have hlen : ((List.range (lw + 1)).map S).length = lw + 1 := by simp
            refine ⟨some ⟨tb, 0, none⟩, (List.range (lw + 1)).map S, lw + 1, by rw [hlen], by rw [hlen]; exact Nat.le_refl _, HT.out.sets, HB1.out.trans HBr.out, fun _ => ⟨by rw [hlen, HLw.out], fun b l hl => ?_⟩, fun h => by rw [HYes.out] at h; cases h⟩
            have hb : b < lw + 1 := by
              rcases Nat.lt_or_ge b (lw + 1) with h1 | h1
              · exact h1
              · rw [List.getElem?_eq_none (by rw [hlen]; exact h1)] at hl; cases hl
            rw [List.getElem?_map, List.getElem?_range hb] at hl
            injection hl with hl
            subst hl
            exact HFin.out rfl b (by have := HLw.out; omega)
          have tlt := HT.out.lt
          go_wp2_with fail
          go_ret
          exact HRes.out
        | true =>
          have HG1 : Hid ((lw + 1) * 13500 + 1 ≤ gk + Ch.tot (lw + 1) S) := HG.out
          clear HG HFin
          go_wp2_with fail
          go_loopw [8, 9] (fun vb i wr => ∃ (a : Nat) (S1 : Nat → List Ch.Im) (b : Bool), a ≤ lw + 1 ∧ vb = .bool b ∧ i = .int .i64 (a : Int) ∧ Hid (TabO wr tb (lw + 1) S1) ∧ Hid (Ch.Rnd ⟨t, n, s, ps⟩ xs (lw + 1) S S1 b (∀ a', a' < a → ∀ x ∈ S a', Cl ⟨t, n, s, ps⟩ xs S a' x)) ∧ Hid (Bl w1 wr)) (fun _ i _ => lw + 1 - (intOf i).toNat)
          case atStart => exact ⟨0, S, false, Nat.zero_le _, rfl, rfl, HT.out, HRn.out.weak (fun _ _ a' h => absurd h (Nat.not_lt_zero _)), HBr.out⟩
          case round =>
            clear HT HBr HRn
            obtain ⟨a, S1, b1, ha, rfl, rfl, HT1, HR1, HBr1⟩ := hrel
            by_cases hal : a < lw + 1
            · have hai : (a : Int) ≤ (lw : Int) := by omega
              have ha0 : (0 : Int) ≤ (a : Int) := by omega
              have ha1 : (a : Int) < (lw : Int) + 1 := by omega
              have ha2 : (a : Int) < ((lw + 1 : Nat) : Int) := by omega
              obtain ⟨Aa, ca, z0, hz, hra⟩ := HT1.out.tabR.2 a hal
              have tlt := HT1.out.lt
              have hlh : (S1 a).length ≤ 13500 := rnd_few HOk.out HR1.out (by omega)
              have HIt : Hid (∀ x ∈ S1 a, Ch.It ⟨t, n, s, ps⟩ xs a x) := fun x hx => HR1.out.sound a x hx
              have HR2 := Lib.hid (HR1.out.weak (Q := (∀ a', a' < a → ∀ x ∈ S a', Cl ⟨t, n, s, ps⟩ xs S a' x) ∧ S1 a = S a) fun e hP => ⟨hP, by rw [e]⟩)
              have HO0 : Hid ((wr.alloc (.cells #[] 42)).ownsRow wr.heap.size 42 3 (.slice (some ⟨wr.heap.size, 0, none⟩) 0 0) 0 []) := own_emptyN wr _ _ _ (Nat.le_refl _)
              have HBa : Hid (Bl wr (wr.alloc (.cells #[] 42))) := (Bl.refl wr).alloc _
              have HRa := Lib.hid (rd_on hra HBa.out)
              have z0a : (wr.alloc (.cells #[] 42)).cell? ⟨tb, a, none⟩ = some (.slice Aa (S1 a).length ca) := (Below.cell HBa.out (p := ⟨tb, a, none⟩) tlt).trans z0
              have HSz : Hid (wr.heap.size ≤ (wr.alloc (.cells #[] 42)).heap.size) := HBa.out.size
              clear hra hz
              generalize S1 a = h at *
              generalize hhl : h.length = lh at *
              have HLh := Lib.hid hhl
              clear hhl
              go_wp2_with (at_builtin; refine wpList_append_rdN _ rfl (.tmp 56) (.tmp 60) 26 rfl wr.heap.size 42 i0 (.agg #[.int .i64 0, .int .i64 0, .int .i64 0]) 3 24 Try.underlying26 hi hz0 hz1 hz2 rfl (by decide) (.slice (some ⟨wr.heap.size, 0, none⟩) 0 0) 0 [] rfl HO0.out _ Aa lh ca (imRow h) rfl HRa.out (by rw [imRow_len, HLh.out]) (imRow_one _) (by simp only [maxLen]; omega) (by omega) HSz.out ?_; intro v6 w6 ho6 hg6; rw [Nat.zero_add, List.nil_append] at ho6; obtain ⟨Ah, ch, hv6, _⟩ := own_form ho6; subst hv6; have HRh := Lib.hid (rd_ownN ho6); have HB6 : Hid (Bl wr w6) := HBa.out.grown hg6 (fun k hk => by cases hk; exact Nat.le_refl _); clear ho6 hg6)
              have HT6 := Lib.hid (HT1.out.bl HB6.out)
              have HBr6 := Lib.hid (HBr1.out.trans HB6.out)
              clear HT1 HBr1 HB6 HRa HBa HO0 HSz z0 z0a tlt HR1
              go_loopw [8, 11] (fun vb i wr => ∃ (k : Nat) (S2 : Nat → List Ch.Im) (b : Bool), k ≤ lh ∧ vb = .bool b ∧ i = .int .i64 (k : Int) ∧ Hid (TabO wr tb (lw + 1) S2) ∧ Hid (Ch.Rnd ⟨t, n, s, ps⟩ xs (lw + 1) S S2 b (((∀ a', a' < a → ∀ x ∈ S a', Cl ⟨t, n, s, ps⟩ xs S a' x) ∧ h = S a) ∧ ∀ k' x, k' < k → h[k']? = some x → Cl ⟨t, n, s, ps⟩ xs S a x)) ∧ Hid (Rd wr wr.heap.size Ah (imRow h)) ∧ Hid (Bl w1 wr)) (fun _ i _ => lh - (intOf i).toNat)
              case atStart => exact ⟨0, S1, b1, Nat.zero_le _, rfl, rfl, HT6.out, HR2.out.weak (fun _ hP => ⟨hP, fun k' x h => absurd h (Nat.not_lt_zero _)⟩), HRh.out, HBr6.out⟩
              case round =>
                clear HT6 HBr6 HRh HR2
                obtain ⟨k, S2, b2, hk, rfl, rfl, HT2, HR2, HRh, HBr2⟩ := hrel
                by_cases hlt : k < lh
                · have hik : (k : Int) < (lh : Int) := by omega
                  have hk0 : (0 : Int) ≤ (k : Int) := by omega
                  have hkl : k < h.length := by have := HLh.out; omega
                  obtain ⟨bh, oh, hAh, hbh, x0, x1, x2⟩ := HRh.out.item hkl
                  have HIx := Lib.hid (HIt.out _ (List.getElem_mem hkl))
                  have hgx : h[k]? = some h[k] := List.getElem?_eq_getElem hkl
                  generalize h[k] = x at *
                  have HGx := Lib.hid hgx
                  have hxf : x.frm < lw + 1 := by have h1 := HIx.out.means.1; omega
                  have HBw2 := Lib.hid (HB1.out.trans HBr2.out)
                  have HBd : Hid (Bl wr wr.drew) := (Bl.refl wr).drew
                  have HTd := Lib.hid (HT2.out.bl HBd.out)
                  have HRhd := Lib.hid (rd_on HRh.out HBd.out)
                  have HAd := Lib.hid (radds_any t n s A len c ps Aw lw cw xs tb (lw + 1) S2 x a wr.drew HL.out h60 HRl.out (HR.out wr.drew (HBw2.out.trans HBd.out)) HLw.out (by omega) (HRw.out wr.drew (HBw2.out.trans HBd.out)) HTd.out.tabR (it_inR HIx.out) hxf (fun b hb y hy => it_inR (HR2.out.sound b y hy)) (fun b hb => rnd_few HOk.out HR2.out (by omega)) (by omega))
                  have HSnd := Lib.hid (Ch.outI_sound HR2.out.sound HIx.out)
                  have HPl := Lib.hid (Ch.outI_place (g := ⟨t, n, s, ps⟩) (w := xs) (S := S2) (a := a) (x := x) (by have := HLw.out; omega))
                  have HLo := Lib.hid (outI_len (g := ⟨t, n, s, ps⟩) (wd := xs) (S := S2) (a := a) (x := x) (by have := HL.out; show ps.length ≤ 60; omega) (rnd_few HOk.out HR2.out (by omega)))
                  have HR3 := Lib.hid (HR2.out.weak (Q := ((((∀ a', a' < a → ∀ x ∈ S a', Cl ⟨t, n, s, ps⟩ xs S a' x) ∧ h = S a) ∧ ∀ k' x, k' < k → h[k']? = some x → Cl ⟨t, n, s, ps⟩ xs S a x) ∧ Ch.outI ⟨t, n, s, ps⟩ xs S a x = Ch.outI ⟨t, n, s, ps⟩ xs S2 a x)) fun e hP => ⟨hP, by rw [e]⟩)
                  generalize Ch.outI ⟨t, n, s, ps⟩ xs S2 a x = op at *
                  obtain ⟨ou, pl⟩ := op
                  have HSnd2 : Hid (∀ y ∈ ou, Ch.It ⟨t, n, s, ps⟩ xs pl y) := HSnd.out
                  have HPl2 : Hid (pl ≤ xs.length) := HPl.out
                  have HLo3 : Hid (ou.length ≤ 13500) := HLo.out
                  have HAd2 : Hid (Calls Try.prog 26 #[.agg #[.int .i64 t, .int .i64 n, .int .i64 s, .slice A len c], .slice Aw lw cw, .slice (some ⟨tb, 0, none⟩) (lw + 1) (lw + 1), .agg #[.int .i64 (x.prod : Int), .int .i64 (x.dot : Int), .int .i64 (x.frm : Int)], .int .i64 (a : Int)] wr.drew (AddsP ou pl wr.drew)) := HAd.out
                  clear HSnd HPl HLo HAd
                  have HKr := Lib.hid (HK1.out.bl HBr2.out)
                  have HPx : Hid (∀ wx, Bl wr wx → wx.cell? ⟨w.heap.size, 0, none⟩ = some (.int .i64 t) ∧ wx.cell? ⟨w.heap.size, 1, none⟩ = some (.int .i64 n) ∧ wx.cell? ⟨w.heap.size, 2, none⟩ = some (.int .i64 s) ∧ wx.cell? ⟨w.heap.size, 3, none⟩ = some (.slice A len c) ∧ wx.cell? ⟨bh, oh + k * 3, none⟩ = some (.int .i64 (x.prod : Int)) ∧ wx.cell? ⟨bh, oh + k * 3 + 1, none⟩ = some (.int .i64 (x.dot : Int)) ∧ wx.cell? ⟨bh, oh + k * 3 + 2, none⟩ = some (.int .i64 (x.frm : Int))) := fun wx hb => by
                    have h1 := HKr.out.bl hb
                    exact ⟨h1.cell 0, h1.cell 1, h1.cell 2, h1.cell 3, (Below.cell hb (p := ⟨bh, oh + k * 3, none⟩) hbh).trans x0, (Below.cell hb (p := ⟨bh, oh + k * 3 + 1, none⟩) hbh).trans x1, (Below.cell hb (p := ⟨bh, oh + k * 3 + 2, none⟩) hbh).trans x2⟩
                  subst hAh
                  have tk1 : True := trivial
                  clear x0 x1 x2 hkl hgx
                  go_upto_region 19 with fail
                  go_region_held3 (fun wx => wx.cell? ⟨w.heap.size, 0, none⟩ = some (.int .i64 t) ∧ wx.cell? ⟨w.heap.size, 1, none⟩ = some (.int .i64 n) ∧ wx.cell? ⟨w.heap.size, 2, none⟩ = some (.int .i64 s) ∧ wx.cell? ⟨w.heap.size, 3, none⟩ = some (.slice A len c) ∧ wx.cell? ⟨bh, oh + k * 3, none⟩ = some (.int .i64 (x.prod : Int)) ∧ wx.cell? ⟨bh, oh + k * 3 + 1, none⟩ = some (.int .i64 (x.dot : Int)) ∧ wx.cell? ⟨bh, oh + k * 3 + 2, none⟩ = some (.int .i64 (x.frm : Int)))
                    (first | exact HPx.out _ HBd.out | exact HPx.out _ HB5.out) (first
                    | (go_at_call 26; have _t := tk1; ((with_reducible refine HAd2.out.mono ?_); rintro e w5 ⟨A8, c8, A9, c9, rfl, hr8, hr9, hb5⟩; have HB5 : Hid (Bl wr w5) := Bl.undrew hb5; have HT5 := Lib.hid (HTd.out.bl hb5); have HRh5 := Lib.hid (rd_on HRhd.out hb5); have HR8 := Lib.hid hr8; have HR9 := Lib.hid hr9; clear tk1 hb5 hr8 hr9))
                    | fail)
                  have HBr5 := Lib.hid (HBr2.out.trans HB5.out)
                  clear HT2 HBr2 HBw2 HBd HTd HRhd HAd2 HPx HB5 HKr HRh HR2
                  generalize hlo : ou.length = lo at *
                  have HLo2 := Lib.hid hlo
                  have hlo9 : lo ≤ 13500 := HLo3.out
                  have hpl9 : pl ≤ lw := by have h1 := HPl2.out; have := HLw.out; omega
                  clear hlo HLo3
                  go_wp2_with fail
                  go_loopw [8, 14] (fun vb i wr => ∃ (q : Nat) (S3 : Nat → List Ch.Im) (b : Bool), q ≤ lo ∧ vb = .bool b ∧ i = .int .i64 (q : Int) ∧ Hid (TabO wr tb (lw + 1) S3) ∧ Hid (Ch.Rnd ⟨t, n, s, ps⟩ xs (lw + 1) S S3 b ((((∀ a', a' < a → ∀ x ∈ S a', Cl ⟨t, n, s, ps⟩ xs S a' x) ∧ h = S a) ∧ ∀ k' x, k' < k → h[k']? = some x → Cl ⟨t, n, s, ps⟩ xs S a x) ∧ Ch.outI ⟨t, n, s, ps⟩ xs S a x = (ou, pl) ∧ ∀ q' y, q' < q → ou[q']? = some y → y ∈ S pl)) ∧ Hid (Rd wr wr.heap.size (some ⟨bh, oh, none⟩) (imRow h)) ∧ Hid (Rd wr wr.heap.size A8 (imRow ou)) ∧ Hid (Rd wr wr.heap.size A9 (ins (List.replicate lo (pl : Int)))) ∧ Hid (Bl w1 wr)) (fun _ i _ => lo - (intOf i).toNat)
                  case atStart => exact ⟨0, S2, b2, Nat.zero_le _, rfl, rfl, HT5.out, HR3.out.weak (fun _ hP => ⟨hP.1, hP.2, fun q' y h => absurd h (Nat.not_lt_zero _)⟩), HRh5.out, HR8.out, HR9.out, HBr5.out⟩
                  case round =>
                    clear HT5 HBr5 HRh5 HR8 HR9 HR3
                    obtain ⟨q, S3, b3, hq, rfl, rfl, HT3, HR3, HRh3, HRo3, HRp3, HBr3⟩ := hrel
                    by_cases hql : q < lo
                    · have hqi : (q : Int) < (lo : Int) := by omega
                      have hq0 : (0 : Int) ≤ (q : Int) := by omega
                      have hqo : q < ou.length := by have := HLo2.out; omega
                      obtain ⟨bo, oo, hA8, hbo, y0, y1, y2⟩ := HRo3.out.item hqo
                      obtain ⟨bp, op, hA9, hbp, p0⟩ := HRp3.out.int (j := q) (by rw [List.length_replicate]; exact hql)
                      rw [List.getElem_replicate] at p0
                      have hpm : pl < lw + 1 := by omega
                      have hp0 : (0 : Int) ≤ (pl : Int) := by omega
                      have hp1 : (pl : Int) < (lw : Int) + 1 := by omega
                      have hp2 : (pl : Int) < ((lw + 1 : Nat) : Int) := by omega
                      obtain ⟨Ap, cp, z0, hz, hrp⟩ := HT3.out.tabR.2 pl hpm
                      have tlt := HT3.out.lt
                      have HItY := Lib.hid (HSnd2.out _ (List.getElem_mem hqo))
                      have hgy : ou[q]? = some ou[q] := List.getElem?_eq_getElem hqo
                      generalize ou[q] = y at *
                      have HGy := Lib.hid hgy
                      have HR4 := Lib.hid (HR3.out.put hpm HItY.out)
                      have HBd : Hid (Bl wr wr.drew) := (Bl.refl wr).drew
                      have HTd := Lib.hid (HT3.out.bl HBd.out)
                      have HRhd := Lib.hid (rd_on HRh3.out HBd.out)
                      have HRod := Lib.hid (rd_on HRo3.out HBd.out)
                      have HRpd := Lib.hid (rd_on HRp3.out HBd.out)
                      have hlS := rnd_few HOk.out HR3.out (a := pl) (by omega)
                      have HAd := Lib.hid (radd_any Ap (S3 pl).length cp (S3 pl) y wr.drew wr.heap.size rfl (by omega) hz hrp (Nat.le_refl _))
                      have HPx : Hid (∀ wx, Bl wr wx → wx.cell? ⟨bp, op + q, none⟩ = some (.int .i64 (pl : Int)) ∧ wx.cell? ⟨tb, pl, none⟩ = some (.slice Ap (S3 pl).length cp) ∧ wx.cell? ⟨bo, oo + q * 3, none⟩ = some (.int .i64 (y.prod : Int)) ∧ wx.cell? ⟨bo, oo + q * 3 + 1, none⟩ = some (.int .i64 (y.dot : Int)) ∧ wx.cell? ⟨bo, oo + q * 3 + 2, none⟩ = some (.int .i64 (y.frm : Int))) := fun wx hb =>
                        ⟨(Below.cell hb (p := ⟨bp, op + q, none⟩) hbp).trans p0, (Below.cell hb (p := ⟨tb, pl, none⟩) tlt).trans z0, (Below.cell hb (p := ⟨bo, oo + q * 3, none⟩) hbo).trans y0, (Below.cell hb (p := ⟨bo, oo + q * 3 + 1, none⟩) hbo).trans y1, (Below.cell hb (p := ⟨bo, oo + q * 3 + 2, none⟩) hbo).trans y2⟩
                      subst hA8 hA9
                      have tk1 : True := trivial
                      clear y0 y1 y2 p0 z0 hz hrp hqo hgy hlS HR3
                      generalize (S3 pl).length = np at *
                      go_upto_region 23 with fail
                      go_region_held3 (fun wx => wx.cell? ⟨bp, op + q, none⟩ = some (.int .i64 (pl : Int)) ∧ wx.cell? ⟨tb, pl, none⟩ = some (.slice Ap np cp) ∧ wx.cell? ⟨bo, oo + q * 3, none⟩ = some (.int .i64 (y.prod : Int)) ∧ wx.cell? ⟨bo, oo + q * 3 + 1, none⟩ = some (.int .i64 (y.dot : Int)) ∧ wx.cell? ⟨bo, oo + q * 3 + 2, none⟩ = some (.int .i64 (y.frm : Int)))
                        (first | exact HPx.out _ HBd.out | exact HPx.out _ HB5.out) (first
                        | (go_at_call 25; have _t := tk1; ((with_reducible refine HAd.out.mono ?_); rintro e w5 ⟨A6, c6, rfl, hc6, hr6, hb6⟩; have HB5 : Hid (Bl wr w5) := Bl.undrew hb6; have HT6 := Lib.hid (HTd.out.bl hb6); have HRh6 := Lib.hid (rd_on HRhd.out hb6); have HRo6 := Lib.hid (rd_on HRod.out hb6); have HRp6 := Lib.hid (rd_on HRpd.out hb6); have HR6 := Lib.hid hr6; have HC6 := Lib.hid hc6; clear tk1 hb6 hr6 hc6))
                        | fail)
                      have HBr6 := Lib.hid (HBr3.out.trans HB5.out)
                      obtain ⟨u0, u1, _⟩ := HPx.out w5 HB5.out
                      have q2 := HT6.out.free pl
                      have q3 := HT6.out.lt
                      have HT7 := Lib.hid (HT6.out.put hpm HR6.out HC6.out)
                      have HFr : Hid (Fr (fun k => k = tb) w5 (w5.setCell ⟨tb, pl, none⟩ (.slice A6 (Ch.insI y (S3 pl)).length c6))) := (Fr.refl (fun k => k = tb) w5).own _ _
                      have HB7 : Hid (Bl w1 (w5.setCell ⟨tb, pl, none⟩ (.slice A6 (Ch.insI y (S3 pl)).length c6))) := Bl.fr HBr6.out HFr.out (fun i hi e => by have := HTbe.out; omega)
                      have HRh7 := Lib.hid (HT6.out.keep HRh6.out (ints_im _) HFr.out)
                      have HRo7 := Lib.hid (HT6.out.keep HRo6.out (ints_im _) HFr.out)
                      have HRp7 := Lib.hid (HT6.out.keep HRp6.out (ints_ins _) HFr.out)
                      have HR8 := Lib.hid (HR4.out.weak (Q := ((((∀ a', a' < a → ∀ x ∈ S a', Cl ⟨t, n, s, ps⟩ xs S a' x) ∧ h = S a) ∧ ∀ k' x, k' < k → h[k']? = some x → Cl ⟨t, n, s, ps⟩ xs S a x) ∧ Ch.outI ⟨t, n, s, ps⟩ xs S a x = (ou, pl) ∧ ∀ q' y, q' < q + 1 → ou[q']? = some y → y ∈ S pl)) fun _ hP => ⟨hP.1.1, hP.1.2.1, fun q' y' h1 h2 => by
                        rcases Nat.lt_or_ge q' q with h3 | h3
                        · exact hP.1.2.2 q' y' h3 h2
                        · obtain rfl : q' = q := by omega
                          rw [HGy.out] at h2
                          injection h2 with h2
                          rw [← h2]; exact hP.2⟩)
                      clear HT3 HTd HRhd HRod HRpd HAd HPx HB5 HT6 HRh6 HRo6 HRp6 HR6 HC6 HBr6 HRh3 HRo3 HRp3 HBr3 HR4 hbo hbp tlt
                      generalize hnb : Ch.newI y (S3 pl) = nb at *
                      clear hnb
                      go_upto_region 25 with fail
                      cases b3 with
                      | true =>
                        go_wp2_with fail
                        go_roundw
                        case rel => exact ⟨q + 1, _, true, by omega, rfl, by go_num, HT7.out, HR8.out, HRh7.out, HRo7.out, HRp7.out, HB7.out⟩
                        case measure => simp [intOf]; omega
                      | false =>
                        go_wp2_with fail
                        go_roundw
                        case rel => exact ⟨q + 1, _, nb, by omega, rfl, by go_num, HT7.out, HR8.out, HRh7.out, HRo7.out, HRp7.out, HB7.out⟩
                        case measure => simp [intOf]; omega
                    · have hqi : ¬ (q : Int) < (lo : Int) := by omega
                      have HR9 := Lib.hid (HR3.out.weak (Q := (((∀ a', a' < a → ∀ x ∈ S a', Cl ⟨t, n, s, ps⟩ xs S a' x) ∧ h = S a) ∧ ∀ k' x, k' < k + 1 → h[k']? = some x → Cl ⟨t, n, s, ps⟩ xs S a x)) fun _ hP => ⟨hP.1.1, fun k' x' h1 h2 => by
                        rcases Nat.lt_or_ge k' k with h3 | h3
                        · exact hP.1.2 k' x' h3 h2
                        · obtain rfl : k' = k := by omega
                          rw [HGx.out] at h2
                          injection h2 with h2
                          subst h2
                          intro y hy
                          rw [hP.2.1] at hy ⊢
                          obtain ⟨q', hq1, hq2⟩ := List.mem_iff_getElem.1 hy
                          exact hP.2.2 q' y (by have := HLo2.out; simp only at hq1; omega) (by rw [List.getElem?_eq_getElem hq1, hq2])⟩)
                      go_wp2_with fail
                      go_roundw
                      case rel => exact ⟨k + 1, S3, b3, by omega, rfl, by go_num, HT3.out, HR9.out, HRh3.out, HBr3.out⟩
                      case measure => simp [intOf]; omega
                · have hik : ¬ (k : Int) < (lh : Int) := by omega
                  have HR9 := Lib.hid (HR2.out.weak (Q := (∀ a', a' < a + 1 → ∀ x ∈ S a', Cl ⟨t, n, s, ps⟩ xs S a' x)) fun _ hP a' h1 x' hx' => by
                    rcases Nat.lt_or_ge a' a with h3 | h3
                    · exact hP.1.1 a' h3 x' hx'
                    · obtain rfl : a' = a := by omega
                      rw [← hP.1.2] at hx'
                      obtain ⟨q', hq1, hq2⟩ := List.mem_iff_getElem.1 hx'
                      exact hP.2 q' x' (by have := HLh.out; omega) (by rw [List.getElem?_eq_getElem hq1, hq2]))
                  go_wp2_with fail
                  go_roundw
                  case rel => exact ⟨a + 1, S2, b2, by omega, rfl, by go_num, HT2.out, HR9.out, HBr2.out⟩
                  case measure => simp [intOf]; omega
            · have hai : ¬ (a : Int) ≤ (lw : Int) := by omega
              have HTt := Lib.hid (rnd_tot HOk.out HR1.out (by omega))
              have HTs := Lib.hid HR1.out.le
              have HFin : Hid (b1 = false → ∀ a, a ≤ xs.length → Ch.Inc (S1 a) ∧ ∀ x, x ∈ S1 a ↔ Ch.It ⟨t, n, s, ps⟩ xs a x) := fun e => by
                have h1 := HR1.out
                rw [e] at h1
                exact (h1.weak (fun _ hP a' ha' x hx => hP a' (by have := HLw.out; omega) x hx)).done
              have HMe : Hid ((lw + 1) * 13500 + b1.toNat - Ch.tot (lw + 1) S1 < gk) := by
                have h1 := HG1.out
                have h2 := HTt.out
                show _ < _
                cases b1 with
                | true => have h3 := HR1.out.grown rfl; show (lw + 1) * 13500 + 1 - _ < _; omega
                | false => have h3 := (HR1.out.same rfl).1; rw [h3] at h2 ⊢; show (lw + 1) * 13500 + 0 - _ < _; omega
              go_wp2_with fail
              go_roundg ((lw + 1) * 13500 + b1.toNat - Ch.tot (lw + 1) S1)
              case measure => exact HMe.out
              case rel => exact ⟨S1, b1, rfl, HT1.out, HR1.out.again, HFin.out, (by show _ ≤ _; omega), HBr1.out⟩
end Go.Proofs.Ytckckejgocbkkaa
