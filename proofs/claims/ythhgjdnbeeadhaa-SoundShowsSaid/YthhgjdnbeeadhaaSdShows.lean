/- SoundShows' contract: a grammar is sound just if facts, and ways, say so (whatever code Check, Way and Leads have that keeps SoundC, WayC and LeadsC). -/
import Derived.Test.YthhgjdnbeeadhaaSdAwk
import Derived.Test.YthhgjdnbeeadhaaGRRight
import Derived.Test.YthhgjdnbeeadhaaEReach
import Derived.Test.YthhgjdnbeeadhaaLAll
import Derived.Test.YthhgjdnbeeadhaaKLarge
import Derived.Test.YthhgjdnbeeadhaaKProd
import Derived.Deep.RegionHeld3
namespace Go.Proofs.Ythhgjdnbeeadhaa
open Go.RowKit

/-- What Way must tell, of a grammar that may be and a nonterminal of it. -/
abbrev WayC : Prop := ∀ (t n s : Int) (A : Option Addr) (len c : Nat) (ps : List Gr.Pr) (m : Nat) (w : World) (B : Nat), len = ps.length → len ≤ 9223372036854775807 → PrsC w B A ps → B ≤ w.heap.size → okB ⟨t, n, s, ps⟩ = true → m < n.toNat →
  Calls Try.prog 12 #[.agg #[.int .i64 t, .int .i64 n, .int .i64 s, .slice A len c], .int .i64 m] w fun e w' =>
    ∃ (A' : Option Addr) (l' c' : Nat) (l : List Lf.Stp), e = .returned (.slice A' l' c') ∧ l' = l.length ∧ l' ≤ 100 ∧ Rd w' w'.heap.size A' (stRow l) ∧ Sd.leftB ⟨t, n, s, ps⟩ m = decide (0 < l') ∧ (0 < l' → Lf.Way ps (Fi.nulls ⟨t, n, s, ps⟩) m l m) ∧ Bl w w'
/-- What Leads must tell of steps that are a way. -/
abbrev LeadsC : Prop := ∀ (t n s : Int) (A : Option Addr) (len c : Nat) (ps : List Gr.Pr) (a b : Nat) (Al : Option Addr) (ll cl : Nat) (l : List Lf.Stp) (w : World) (B : Nat), len = ps.length → len ≤ 9223372036854775807 → PrsC w B A ps → B ≤ w.heap.size → okB ⟨t, n, s, ps⟩ = true →
  ll = l.length → ll ≤ 100 → 0 < ll → Rd w B Al (stRow l) → Lf.Way ps (Fi.nulls ⟨t, n, s, ps⟩) a l b →
  Calls Try.prog 13 #[.agg #[.int .i64 t, .int .i64 n, .int .i64 s, .slice A len c], .int .i64 a, .int .i64 b, .slice Al ll cl] w fun e w' =>
    e = .returned (.bool true) ∧ Bl w w'

set_option maxRecDepth 100000 in
set_option maxHeartbeats 8000000 in
theorem soundShows_any (HC : SoundC) (HW : WayC) (HD : LeadsC) (t n s : Int) (A : Option Addr) (len c : Nat) (ps : List Gr.Pr) (W : World)
    (hlen : len = ps.length) (hmax : len ≤ 9223372036854775807) (hr : PrsC W W.heap.size A ps) :
    Calls Try.prog 4 #[.agg #[.int .i64 t, .int .i64 n, .int .i64 s, .slice A len c]] W fun e w' => e = .returned (.bool true) ∧ Bl W w' := by
  have HL := Lib.hid hlen; clear hlen
  have HP : Hid (∀ w', Bl W w' → PrsC w' w'.heap.size A ps) := fun _ hb => (hr.bl (Nat.le_refl _) hb).more hb.size
  clear hr
  have HB0 : Hid (Bl W (W.alloc (.cells #[.int .i64 t, .int .i64 n, .int .i64 s, .slice A len c] 24))) := (Bl.refl W).alloc _
  have HK0 := Lib.hid (Bk.new W 24 #[.int .i64 t, .int .i64 n, .int .i64 s, .slice A len c])
  go_enter Try.func4, Try.ntmps4
  go_wp2_with fail
  refine (awake14_any HC _).mono ?_
  rintro e w1 ⟨rfl, hb1⟩
  have HB1 := Lib.hid (HB0.out.trans hb1)
  have HK1 := Lib.hid (HK0.out.bl hb1)
  clear hb1 HB0 HK0
  have k0 : w1.cell? ⟨W.heap.size, 0, none⟩ = some (.int .i64 t) := HK1.out.cell 0
  have k1 : w1.cell? ⟨W.heap.size, 1, none⟩ = some (.int .i64 n) := HK1.out.cell 1
  have k2 : w1.cell? ⟨W.heap.size, 2, none⟩ = some (.int .i64 s) := HK1.out.cell 2
  have k3 : w1.cell? ⟨W.heap.size, 3, none⟩ = some (.slice A len c) := HK1.out.cell 3
  go_wp2_with fail
  refine (large9_any t n s A len c ps _ w1.heap.size HL.out hmax (HP.out _ HB1.out).prs (Nat.le_refl _)).mono ?_
  rintro e w2 ⟨rfl, hb2⟩
  have HB2 := Lib.hid (HB1.out.trans hb2)
  have HK2 := Lib.hid (HK1.out.bl hb2)
  clear hb2 k0 k1 k2 k3 HB1 HK1
  cases hlg : lgB ps with
  | true =>
    go_wp2_with fail
    go_ret
    exact ⟨rfl, HB2.out⟩
  | false =>
  clear hlg
  have k0 : w2.cell? ⟨W.heap.size, 0, none⟩ = some (.int .i64 t) := HK2.out.cell 0
  have k1 : w2.cell? ⟨W.heap.size, 1, none⟩ = some (.int .i64 n) := HK2.out.cell 1
  have k2 : w2.cell? ⟨W.heap.size, 2, none⟩ = some (.int .i64 s) := HK2.out.cell 2
  have k3 : w2.cell? ⟨W.heap.size, 3, none⟩ = some (.slice A len c) := HK2.out.cell 3
  go_wp2_with fail
  refine (rright_any t n s A len c ps _ w2.heap.size HL.out hmax (HP.out _ HB2.out).prs (Nat.le_refl _)).mono ?_
  rintro e w3 ⟨rfl, hb3⟩
  have HB3 := Lib.hid (HB2.out.trans hb3)
  have HK3 := Lib.hid (HK2.out.bl hb3)
  clear hb3 k0 k1 k2 k3 HB2 HK2
  cases hok : okB ⟨t, n, s, ps⟩ with
  | false =>
    go_wp2_with fail
    go_ret
    exact ⟨rfl, HB3.out⟩
  | true =>
  obtain ⟨n1, n2, n3⟩ := ok_nons hok
  obtain ⟨N, rfl⟩ : ∃ N : Nat, n = (N : Int) := ⟨n.toNat, by omega⟩
  have HOK := Lib.hid hok
  have HCh := Lib.hid (chkOf_ok hok)
  have HYes : Hid (factsOf true ⟨t, (N : Int), s, ps⟩ = fz (Rk.ranks true ps N)) := factsOf_ok (terms := true) hok
  have HRe : Hid (reachOf ⟨t, (N : Int), s, ps⟩ = fz (Rc.reach ps N s.toNat)) := reachOf_ok hok
  have HRl : Hid ((Rk.ranks true ps N).length = N) := Rk.ranks_length true ps N
  have HEl : Hid ((Rc.reach ps N s.toNat).length = N) := by have h := reachOf_len hok; rw [reachOf_ok hok, fz_len] at h; exact h
  have hlx60 : len ≤ 60 := by have := HL.out; omega
  clear hok
  have k0 : w3.cell? ⟨W.heap.size, 0, none⟩ = some (.int .i64 t) := HK3.out.cell 0
  have k1 : w3.cell? ⟨W.heap.size, 1, none⟩ = some (.int .i64 (N : Int)) := HK3.out.cell 1
  have k2 : w3.cell? ⟨W.heap.size, 2, none⟩ = some (.int .i64 s) := HK3.out.cell 2
  have k3 : w3.cell? ⟨W.heap.size, 3, none⟩ = some (.slice A len c) := HK3.out.cell 3
  go_wp2_with fail
  refine (HC t N s A len c ps _ _ HL.out hmax (HP.out _ HB3.out) (Nat.le_refl _)).mono ?_
  rw [HCh.out]
  have HCs := Lib.hid (Sd.fault_cases ⟨t, (N : Int), s, ps⟩)
  generalize Sd.faultOf ⟨t, (N : Int), s, ps⟩ = x at HCs ⊢
  obtain ⟨x1, x2⟩ := x
  have hx1 : x1 < N := by
    rcases HCs.out with ⟨i, h, hi, _⟩ | ⟨i, h, hi, _⟩ | ⟨i, h, hi, _⟩ | ⟨h, _⟩
    · injection h with h _; subst h; exact hi
    · injection h with h _; subst h; exact hi
    · injection h with h _; subst h; exact hi
    · injection h with h _; subst h; omega
  simp only
  rintro e w4 ⟨rfl, hb4⟩
  have HB4 := Lib.hid (HB3.out.trans hb4)
  have HK4 := Lib.hid (HK3.out.bl hb4)
  clear hb4 k0 k1 k2 k3 HB3 HK3
  go_wp2_with fail
  have HKc := Lib.hid HK4.out
  have HBc := Lib.hid (Bl.refl w4)
  have tk1 : True := trivial
  have tk2 : True := trivial
  go_region_held3 (fun w' => w'.cell? ⟨W.heap.size, 0, none⟩ = some (.int .i64 t) ∧ w'.cell? ⟨W.heap.size, 1, none⟩ = some (.int .i64 (N : Int)) ∧ w'.cell? ⟨W.heap.size, 2, none⟩ = some (.int .i64 s) ∧ w'.cell? ⟨W.heap.size, 3, none⟩ = some (.slice A len c)) (exact ⟨HKc.out.cell 0, HKc.out.cell 1, HKc.out.cell 2, HKc.out.cell 3⟩) (first
    | (go_at_call 10; have _t := tk1; ((with_reducible refine (productive_any t N s A len c ps _ v2.heap.size HL.out hmax (HP.out v2 (HB4.out.trans HBc.out)).prs (Nat.le_refl _)).mono ?_); intro e v1 h1; obtain ⟨Ap, cAp, he1, hr1, hb1⟩ := h1.lit (k := N) HYes.out (by rw [fz_len]; exact HRl.out); subst he1; have HRr := Lib.hid (rd_on HRr.out hb1); have HRp := Lib.hid hr1; have HBx := Lib.hid (HBc.out.trans hb1); clear HBc; have HBc := Lib.hid HBx.out; have HKc := Lib.hid (HK4.out.bl HBc.out); clear HBx h1 hr1 hb1; clear tk1))
    | (go_at_call 11; have _t := tk2; ((with_reducible refine (reach_any t N s A len c ps _ v1.heap.size HL.out hmax (HP.out v1 (HB4.out.trans HBc.out)).prs (Nat.le_refl _)).mono ?_); intro e v2 h1; obtain ⟨Ar, cAr, he1, hr1, hb1⟩ := h1.lit (k := N) HRe.out (by rw [fz_len]; exact HEl.out); subst he1; have HRp := Lib.hid (rd_on HRp.out hb1); have HRr := Lib.hid hr1; have HBx := Lib.hid (HBc.out.trans hb1); clear HBc; have HBc := Lib.hid HBx.out; have HKc := Lib.hid (HK4.out.bl HBc.out); clear HBx h1 hr1 hb1; clear tk2))
    | (go_at_call 10; have _t := tk1; ((with_reducible refine (productive_any t N s A len c ps _ w4.heap.size HL.out hmax (prs_drew (HP.out w4 HB4.out).prs) (Nat.le_refl _)).mono ?_); intro e v1 h1; obtain ⟨Ap, cAp, he1, hr1, hb1⟩ := h1.lit (k := N) HYes.out (by rw [fz_len]; exact HRl.out); subst he1; have HRp := Lib.hid hr1; have HBx := Lib.hid (HBc.out.trans (Bl.undrew hb1)); clear HBc; have HBc := Lib.hid HBx.out; have HKc := Lib.hid (HK4.out.bl HBc.out); clear HBx h1 hr1 hb1; clear tk1))
    | (go_at_call 11; have _t := tk2; ((with_reducible refine (reach_any t N s A len c ps _ w4.heap.size HL.out hmax (prs_drew (HP.out w4 HB4.out).prs) (Nat.le_refl _)).mono ?_); intro e v2 h1; obtain ⟨Ar, cAr, he1, hr1, hb1⟩ := h1.lit (k := N) HRe.out (by rw [fz_len]; exact HEl.out); subst he1; have HRr := Lib.hid hr1; have HBx := Lib.hid (HBc.out.trans (Bl.undrew hb1)); clear HBc; have HBc := Lib.hid HBx.out; have HKc := Lib.hid (HK4.out.bl HBc.out); clear HBx h1 hr1 hb1; clear tk2))
    | fail)
  all_goals
    have kc1 : (_ : World).cell? ⟨W.heap.size, 1, none⟩ = some (.int .i64 (N : Int)) := HKc.out.cell 1
    have kc2 : (_ : World).cell? ⟨W.heap.size, 0, none⟩ = some (.int .i64 t) := HKc.out.cell 0
    have kc3 : (_ : World).cell? ⟨W.heap.size, 2, none⟩ = some (.int .i64 s) := HKc.out.cell 2
    have kc4 : (_ : World).cell? ⟨W.heap.size, 3, none⟩ = some (.slice A len c) := HKc.out.cell 3
    have hx2 : decide ((x1 : Int) < 0) = false := decide_eq_false (by omega)
    have hx3 : decide ((N : Int) ≤ (x1 : Int)) = false := decide_eq_false (by omega)
    have hx4 : decide (N ≤ x1) = false := decide_eq_false (by omega)
    go_wp2_with fail
    go_loopw [7, 51] (fun f i wr => ∃ j : Nat, j ≤ N ∧ i = .int .i64 j ∧ f = .bool (Sd.allGood ⟨t, (N : Int), s, ps⟩ j) ∧ Hid (Bl _ wr)) (fun _ i _ => N - (intOf i).toNat)
    case atStart => exact ⟨0, Nat.zero_le _, rfl, rfl, Bl.refl _⟩
    case round =>
      obtain ⟨j, hj, rfl, rfl, HBr⟩ := hrel
      have HKr := Lib.hid (HKc.out.bl HBr.out)
      have HBx := Lib.hid (HB4.out.trans (HBc.out.trans HBr.out))
      clear kc1 kc2 kc3 kc4
      have kc1 : (_ : World).cell? ⟨W.heap.size, 1, none⟩ = some (.int .i64 (N : Int)) := HKr.out.cell 1
      have kc2 : (_ : World).cell? ⟨W.heap.size, 0, none⟩ = some (.int .i64 t) := HKr.out.cell 0
      have kc3 : (_ : World).cell? ⟨W.heap.size, 2, none⟩ = some (.int .i64 s) := HKr.out.cell 2
      have kc4 : (_ : World).cell? ⟨W.heap.size, 3, none⟩ = some (.slice A len c) := HKr.out.cell 3
      by_cases hlt : j < N
      · have HSu := Lib.hid (Sd.allGood_succ ⟨t, (N : Int), s, ps⟩ j)
        have HGd : Hid (Sd.goodB ⟨t, (N : Int), s, ps⟩ j = (!decide (Rk.rk (Rk.ranks true ps N) j = 0) && (!decide (Rk.rk (Rc.reach ps N s.toNat) j = 0) && !Sd.leftB ⟨t, (N : Int), s, ps⟩ j))) := rfl
        cases hg : Sd.allGood ⟨t, (N : Int), s, ps⟩ j with
        | false =>
          have HX : Hid (Sd.allGood ⟨t, (N : Int), s, ps⟩ (j + 1) = false) := by rw [HSu.out, hg]; rfl
          clear hg
          go_wp2_with fail
          go_roundw
          case rel => exact ⟨j + 1, by omega, by go_num, by rw [HX.out], HBr.out⟩
          case measure => simp [intOf]; omega
        | true =>
          rw [hg, Bool.true_and] at HSu
          clear hg
          obtain ⟨bp, op, rfl, hbp, p0, p1⟩ := (rd_on HRp.out HBr.out).fact (i := j) (by rw [fz_len]; exact Nat.lt_of_lt_of_eq hlt HRl.out.symm)
          obtain ⟨br, or, rfl, hbr, r0, r1⟩ := (rd_on HRr.out HBr.out).fact (i := j) (by rw [fz_len]; exact Nat.lt_of_lt_of_eq hlt HEl.out.symm)
          rw [fz_rank] at p0 r0
          clear p1 r1
          have hj0 : (0 : Int) ≤ (j : Int) := by omega
          have hj1 : (j : Int) < (N : Int) := by omega
          generalize Rk.rk (Rk.ranks true ps N) j = rp at p0 HGd
          generalize Rk.rk (Rc.reach ps N s.toNat) j = rr at r0 HGd
          by_cases hp : rp = 0
          · have HX : Hid (Sd.allGood ⟨t, (N : Int), s, ps⟩ (j + 1) = false) := by rw [HSu.out, HGd.out, decide_eq_true hp]; rfl
            subst hp
            go_wp2_with fail
            go_roundw
            case rel => exact ⟨j + 1, by omega, by go_num, by rw [HX.out], HBr.out⟩
            case measure => simp [intOf]; omega
          · have hdp : decide ((0 : Int) < (rp : Int)) = true := decide_eq_true (by omega)
            by_cases hq : rr = 0
            · have HX : Hid (Sd.allGood ⟨t, (N : Int), s, ps⟩ (j + 1) = false) := by rw [HSu.out, HGd.out, decide_eq_false hp, decide_eq_true hq]; rfl
              subst hq
              clear hp
              generalize hrp : (rp : Int) = rpi at p0 hdp
              go_wp2_with fail
              go_roundw
              case rel => exact ⟨j + 1, by omega, by go_num, by rw [HX.out], HBr.out⟩
              case measure => simp [intOf]; omega
            · have hdr : decide ((0 : Int) < (rr : Int)) = true := decide_eq_true (by omega)
              have HGo : Hid (Sd.allGood ⟨t, (N : Int), s, ps⟩ (j + 1) = !Sd.leftB ⟨t, (N : Int), s, ps⟩ j) := by rw [HSu.out, HGd.out, decide_eq_false hp, decide_eq_false hq]; rfl
              clear hp hq
              generalize hrp : (rp : Int) = rpi at p0 hdp
              generalize hrr : (rr : Int) = rri at r0 hdr
              go_wp2_with fail
              refine (HW t N s A len c ps j _ _ HL.out hmax (HP.out _ HBx.out) (Nat.le_refl _) HOK.out hlt).mono ?_
              rintro e w6 ⟨A6, l6, c6, l, rfl, hl6, hl24, _, hlb, _, hb6⟩
              have HB6 := Lib.hid (HBr.out.trans hb6)
              have HX : Hid (Sd.allGood ⟨t, (N : Int), s, ps⟩ (j + 1) = decide (l6 = 0)) := by
                rw [HGo.out, hlb]
                by_cases h0 : l6 = 0
                · rw [decide_eq_true h0, decide_eq_false (by omega)]; rfl
                · rw [decide_eq_false h0, decide_eq_true (by omega)]; rfl
              clear hl6 hlb hb6
              by_cases h0 : l6 = 0
              · subst h0
                go_wp2_with fail
                go_roundw
                case rel => exact ⟨j + 1, by omega, by go_num, by rw [HX.out]; rfl, HB6.out⟩
                case measure => simp [intOf]; omega
              · have hz : (((l6 : Nat) : Int) == 0) = false := by simp; omega
                rw [decide_eq_false h0] at HX
                clear h0
                go_wp2_with fail
                go_roundw
                case rel => exact ⟨j + 1, by omega, by go_num, by rw [HX.out], HB6.out⟩
                case measure => simp [intOf]; omega
      · have hjN : j = N := by omega
        obtain ⟨bp, op, rfl, hbp, p0, p1⟩ := (rd_on HRp.out HBr.out).fact (i := x1) (by rw [fz_len]; exact Nat.lt_of_lt_of_eq hx1 HRl.out.symm)
        obtain ⟨br, or, rfl, hbr, r0, r1⟩ := (rd_on HRr.out HBr.out).fact (i := x1) (by rw [fz_len]; exact Nat.lt_of_lt_of_eq hx1 HEl.out.symm)
        rw [fz_rank] at p0 r0
        clear p1 r1
        have hj0 : (0 : Int) ≤ (x1 : Int) := by omega
        have hj1 : (x1 : Int) < (N : Int) := by omega
        have HDd : Hid (Sd.deadB ⟨t, (N : Int), s, ps⟩ x1 = decide (Rk.rk (Rk.ranks true ps N) x1 = 0)) := rfl
        have HDa : Hid (Sd.aloneB ⟨t, (N : Int), s, ps⟩ x1 = decide (Rk.rk (Rc.reach ps N s.toNat) x1 = 0)) := rfl
        generalize Rk.rk (Rk.ranks true ps N) x1 = rp at p0 HDd
        generalize Rk.rk (Rc.reach ps N s.toNat) x1 = rr at r0 HDa
        rcases HCs.out with ⟨i, h, _, hd⟩ | ⟨i, h, _, ha, hd⟩ | ⟨i, h, _, hl, ha⟩ | ⟨h, hs⟩
        · injection h with h1 h2
          subst h1 h2
          have hp : rp = 0 := by rw [HDd.out] at hd; exact of_decide_eq_true hd
          subst hp
          clear hd
          go_wp2_with fail
          go_ret
          exact ⟨rfl, HBx.out⟩
        · injection h with h1 h2
          subst h1 h2
          have hp : rr = 0 := by rw [HDa.out] at ha; exact of_decide_eq_true ha
          have hq : rp ≠ 0 := by rw [HDd.out] at hd; exact of_decide_eq_false hd
          have hdp : decide ((0 : Int) < (rp : Int)) = true := decide_eq_true (by omega)
          subst hp
          clear ha hd hq
          generalize hrp : (rp : Int) = rpi at p0 hdp
          go_wp2_with fail
          go_ret
          exact ⟨rfl, HBx.out⟩
        · injection h with h1 h2
          subst h1 h2
          have hq : rr ≠ 0 := by rw [HDa.out] at ha; exact of_decide_eq_false ha
          have hdr : decide ((0 : Int) < (rr : Int)) = true := decide_eq_true (by omega)
          have HLf := Lib.hid hl
          clear ha hq hl
          generalize hrr : (rr : Int) = rri at r0 hdr
          generalize hwq : wr = wq at *
          clear hwq
          have HKc := Lib.hid HKr.out
          have HRc : Hid (∀ w', Bl wq w' → w'.cell? ⟨br, or + x1 * 2, none⟩ = some (.int .i64 rri)) := fun w' hb => (Below.cell hb (p := ⟨br, or + x1 * 2, none⟩) hbr).trans r0
          have HBz : Hid (Bl wq wq.drew) := (Bl.refl wq).drew
          have HX1 : Hid (x1 < ((N : Int)).toNat) := hx1
          have tk3 : True := trivial
          have tk4 : True := trivial
          go_wp2_with fail
          go_region_held3 (fun w' => w'.cell? ⟨W.heap.size, 0, none⟩ = some (.int .i64 t) ∧ w'.cell? ⟨W.heap.size, 1, none⟩ = some (.int .i64 (N : Int)) ∧ w'.cell? ⟨W.heap.size, 2, none⟩ = some (.int .i64 s) ∧ w'.cell? ⟨W.heap.size, 3, none⟩ = some (.slice A len c) ∧ w'.cell? ⟨br, or + x1 * 2, none⟩ = some (.int .i64 rri)) (exact ⟨HKc.out.cell 0, HKc.out.cell 1, HKc.out.cell 2, HKc.out.cell 3, HRc.out _ HBz.out⟩) (first
            | (go_at_call 12; have _t := tk3; ((with_reducible refine (HW t N s A len c ps x1 _ wq.heap.size HL.out hmax (HP.out wq HBx.out).drew (Nat.le_refl _) HOK.out HX1.out).mono ?_); rintro e v7 ⟨A7, l7, c7, l, rfl, hl7, hl24, hrl, hlb, hwy, hb7⟩; have h07 : 0 < l7 := of_decide_eq_true (HLf.out.symm.trans hlb).symm; have HL7 := Lib.hid hl7; have HR7 := Lib.hid hrl; have HWy := Lib.hid (hwy h07); have HBx2 := Lib.hid (Bl.undrew hb7); clear HBz; have HBz := Lib.hid HBx2.out; have HKc := Lib.hid (HKr.out.bl HBz.out); clear HBx2 hl7 hrl hlb hwy hb7; clear tk3))
            | (go_at_call 13; have _t := tk4; ((with_reducible refine (HD t N s A len c ps x1 x1 A7 l7 c7 l _ v7.heap.size HL.out hmax (HP.out v7 (HBx.out.trans HBz.out)) (Nat.le_refl _) HOK.out HL7.out (by omega) h07 HR7.out HWy.out).mono ?_); rintro e v8 ⟨rfl, hb8⟩; have HBx2 := Lib.hid (HBz.out.trans hb8); clear HBz; have HBz := Lib.hid HBx2.out; have HKc := Lib.hid (HKr.out.bl HBz.out); clear HBx2 hb8; clear tk4))
            | fail)
          go_wp2_with fail
          go_ret
          exact ⟨rfl, HBx.out.trans HBz.out⟩
        · injection h with h1 h2
          subst h1 h2
          have hg : Sd.allGood ⟨t, (N : Int), s, ps⟩ j = true := by rw [hjN]; exact Sd.sound_good hs
          rw [hg]
          go_wp2_with fail
          go_ret
          exact ⟨rfl, HBx.out⟩
end Go.Proofs.Ythhgjdnbeeadhaa
