/- The reference's Shows: do facts show what is reached? -/
import Derived.Test.YthjaidaibpdamaaERReach
import Derived.Test.YthjaidaibpdamaaEShow
namespace Go.Proofs.Ythjaidaibpdamaa
open Go.RowKit

set_option maxRecDepth 100000 in
set_option maxHeartbeats 4000000 in
theorem reshows_any (t n s : Int) (A : Option Addr) (len c : Nat) (ps : List Gr.Pr) (Af : Option Addr) (lf cf : Nat) (l : List Fc) (w : World) (B : Nat)
    (hlen : len = ps.length) (hmax : len ≤ 9223372036854775807) (hr : Prs w B A ps) (hlf : lf = l.length) (hmf : lf ≤ 9223372036854775807) (hrl : Rd w B Af (fcRow l)) (hB : B ≤ w.heap.size) :
    Calls Try.prog 12 #[.agg #[.int .i64 t, .int .i64 n, .int .i64 s, .slice A len c], .slice Af lf cf] w fun e w' =>
      e = .returned (.bool (eshowsB ⟨t, n, s, ps⟩ l)) ∧ Bl w w' := by
  have HL := Lib.hid hlen; clear hlen
  have HA := Lib.hid hr; clear hr
  have HLF := Lib.hid hlf; clear hlf
  have HF := Lib.hid hrl; clear hrl
  have HB : Hid (Bl w (w.alloc (.cells #[.int .i64 t, .int .i64 n, .int .i64 s, .slice A len c] 24))) := (Bl.refl w).alloc _
  have HG : Hid (Bk (w.alloc (.cells #[.int .i64 t, .int .i64 n, .int .i64 s, .slice A len c] 24)) w.heap.size 24 #[.int .i64 t, .int .i64 n, .int .i64 s, .slice A len c]) := Bk.new w _ _
  go_enter Try.func12, Try.ntmps12
  go_wp2_with fail
  refine (rright_any t n s A len c ps _ B HL.out hmax (HA.out.bl hB HB.out) (Nat.le_trans hB HB.out.size)).mono ?_
  rintro e w1 ⟨rfl, hb1⟩
  have HB1 := Lib.hid (HB.out.trans hb1)
  have HG1 := Lib.hid (HG.out.bl hb1)
  clear hb1
  cases hok : okB ⟨t, n, s, ps⟩ with
  | false =>
    have HV := Lib.hid (eshowsB_bad (l := l) hok)
    clear hok
    go_wp2_with fail
    go_ret
    exact ⟨by rw [HV.out]; rfl, HB1.out⟩
  | true =>
    obtain ⟨n1, n2, n3⟩ := ok_nons hok
    obtain ⟨s1, s2⟩ := ok_start hok
    have hl60 : len ≤ 60 := by have := HL.out; omega
    have HOK := Lib.hid hok; clear hok
    obtain ⟨st, rfl⟩ : ∃ st : Nat, s = (st : Int) := ⟨s.toNat, by omega⟩
    have g1 : w1.cell? ⟨w.heap.size, 1, none⟩ = some (.int .i64 n) := HG1.out.cell 1
    have g2 : w1.cell? ⟨w.heap.size, 2, none⟩ = some (.int .i64 (st : Int)) := HG1.out.cell 2
    have glt : w.heap.size < w1.heap.size := HG1.out.lt
    by_cases hne : (lf : Int) = n
    · have hq : ((lf : Int) != n) = false := by simpa using hne
      have HN : Hid ((l.length : Int) = n) := by have := HLF.out; show (l.length : Int) = n; omega
      have hstl : st < lf := by omega
      have hst : st < l.length := by have := HLF.out; omega
      have hst0 : (0 : Int) ≤ (st : Int) := by omega
      subst hne
      obtain ⟨bf, off2, rfl, hbf, f0, f1⟩ := (HF.out.bl hB HB1.out).fact hst
      have HSt : Hid (∀ xr xp, l[st] = ⟨xr, xp⟩ → ¬ (xr = 1 ∧ xp = 0) → eshowsB ⟨t, (lf : Int), (st : Int), ps⟩ l = false) := fun xr xp he h => eshowsB_start hst he h
      have HS1 : Hid (∀ xr xp, l[st] = ⟨xr, xp⟩ → xr = 1 → xp = 0 → l[st]? = some ⟨1, 0⟩) := fun xr xp he h1 h2 => by subst h1 h2; rw [List.getElem?_eq_getElem hst, he]
      generalize hx : l[st] = x at f0 f1 HSt HS1
      obtain ⟨xr, xp⟩ := x
      simp only at f0 f1
      have HSt := Lib.hid (HSt.out xr xp rfl)
      have HS1 := Lib.hid (HS1.out xr xp rfl)
      clear hx hst
      by_cases h1 : xr = 1
      · subst h1
        by_cases h2 : xp = 0
        · subst h2
          have HS2 := Lib.hid (HS1.out rfl rfl)
          go_wp2_with fail
          clear g1 g2 glt hq f0 f1
          go_loopw [5] (fun i wr => ∃ k : Nat, k ≤ lf ∧ i = .int .i64 k ∧ Hid (eTo ps l st k) ∧ Hid (Bl w1 wr)) (fun i _ => lf - (intOf i).toNat)
          case atStart => exact ⟨0, Nat.zero_le _, rfl, eTo_zero, Bl.refl _⟩
          case round =>
            obtain ⟨k, hk, rfl, HT, HBr⟩ := hrel
            have HKr := Lib.hid (HG1.out.bl HBr.out)
            have g1 : wr.cell? ⟨w.heap.size, 1, none⟩ = some (.int .i64 (lf : Int)) := HKr.out.cell 1
            have g2 : wr.cell? ⟨w.heap.size, 2, none⟩ = some (.int .i64 (st : Int)) := HKr.out.cell 2
            have g3 : wr.cell? ⟨w.heap.size, 3, none⟩ = some (.slice A len c) := HKr.out.cell 3
            have glt : w.heap.size < wr.heap.size := HKr.out.lt
            by_cases hlt : k < lf
            · have hj : k < l.length := by have := HLF.out; omega
              have HBw := Lib.hid (HB1.out.trans HBr.out)
              have hBw : B ≤ wr.heap.size := Nat.le_trans hB HBw.out.size
              obtain ⟨bf', off', hA', hbf', f0, f1⟩ := (HF.out.bl hB HBw.out).fact hj
              cases hA'
              have HGood := Lib.hid (fun h => eTo_succ HT.out hj h)
              have HBad := Lib.hid (fun hne h => eshowsB_one (t := t) (n := (lf : Int)) (st := st) (ps := ps) hj hne h)
              generalize l[k] = x at f0 f1 HGood HBad
              obtain ⟨xr, xp⟩ := x
              simp only at f0 f1
              have hbw : bf < wr.heap.size := by omega
              clear hj
              by_cases hks : k = st
              · subst hks
                have HX := Lib.hid (HGood.out (.inl rfl))
                have hq : ((k : Int) == (k : Int)) = true := by simp
                go_wp2_with fail
                go_roundw
                case rel => exact ⟨k + 1, by omega, by go_num, HX.out, HBr.out.alloc _⟩
                case measure => simp [intOf]; omega
              have hq : ((k : Int) == (st : Int)) = false := by simp; omega
              have HBad := Lib.hid (HBad.out hks)
              clear hks
              by_cases r1 : xr = 0
              · subst r1
                by_cases p0 : xp = 0
                · subst p0
                  have HX := Lib.hid (HGood.out (.inr (by rw [eOne_low (by omega)]; rfl)))
                  go_wp2_with fail
                  go_roundw
                  case rel => exact ⟨k + 1, by omega, by go_num, HX.out, HBr.out.alloc _⟩
                  case measure => simp [intOf]; omega
                · have hq2 : (xp == 0) = false := by simpa using p0
                  have HX := Lib.hid (HBad.out (by rw [eOne_low (by omega)]; exact decide_eq_false fun e => p0 e.2))
                  clear p0
                  go_wp2_with fail
                  go_ret
                  exact ⟨by rw [HX.out]; rfl, (HB1.out.trans HBr.out).alloc _⟩
              have hq2 : (xr == 0) = false := by simpa using r1
              by_cases r0 : xr < 0
              · have HX := Lib.hid (HBad.out (by rw [eOne_low (by omega)]; exact decide_eq_false fun e => r1 e.1))
                have hr0 : xr ≤ 0 := by omega
                clear r1
                go_wp2_with fail
                go_ret
                exact ⟨by rw [HX.out]; rfl, (HB1.out.trans HBr.out).alloc _⟩
              have hr1 : ¬ xr < 1 := by omega
              have hr2 : ¬ xr ≤ 0 := by omega
              clear r1 r0
              by_cases p0 : xp < 0
              · have HX := Lib.hid (HBad.out (eOne_out hr1 (.inl p0)))
                go_wp2_with fail
                go_ret
                exact ⟨by rw [HX.out]; rfl, (HB1.out.trans HBr.out).alloc _⟩
              by_cases p1 : (len : Int) ≤ xp
              · have HX := Lib.hid (HBad.out (eOne_out hr1 (.inr (by have := HL.out; omega))))
                go_wp2_with fail
                go_ret
                exact ⟨by rw [HX.out]; rfl, (HB1.out.trans HBr.out).alloc _⟩
              obtain ⟨p, rfl⟩ : ∃ p : Nat, xp = (p : Int) := ⟨xp.toNat, by omega⟩
              have hpl : p < len := by omega
              have hp : p < ps.length := by have := HL.out; omega
              have HV := Lib.hid (eOne_at (l := l) (non := (k : Int)) hr1 hp)
              obtain ⟨b, off, Ax, cx, rfl, hbB, hrx, hc0, hc1⟩ := (HA.out.bl hB HBw.out).at_ hp
              obtain ⟨⟨o1, o2⟩, o3, o4⟩ := ok_syms HOK.out hp
              obtain ⟨q, hqe, hql⟩ : ∃ q : Nat, ps[p].left = (q : Int) ∧ q < lf := ⟨ps[p].left.toNat, by omega, by omega⟩
              have hql2 : q < l.length := by have := HLF.out; omega
              obtain ⟨bf'', off'', hA', hbf'', e0, e1⟩ := (HF.out.bl hB HBw.out).fact hql2
              cases hA'
              have HRX := Lib.hid hrx
              have hr8 : ps[p].right.length ≤ 8 := o3
              have hbw2 : b < wr.heap.size := by omega
              rw [hqe, Int.toNat_natCast, rkz_at hql2] at HV
              rw [hqe] at hc0
              clear hrx o1 o2 o3 o4 hqe e1 p0 p1
              generalize ps[p].right = right at *
              generalize l[q] = z at e0 HV
              obtain ⟨zr, zp⟩ := z
              simp only at e0 HV
              clear hp hql2
              have HB2 : Hid (Bl wr (wr.alloc (.cells #[.int .i64 xr, .int .i64 (p : Int)] 32))) := (Bl.refl wr).alloc _
              have HF2 := Lib.hid (Bk.new wr 32 #[.int .i64 xr, .int .i64 (p : Int)])
              have HC0 : Hid (∀ W : World, Bl wr W → W.cell? ⟨b, off + p * 2, none⟩ = some (.int .i64 (q : Int))) := fun W hb => (Below.cell hb (p := ⟨b, off + p * 2, none⟩) hbw2).trans hc0
              have HE0 : Hid (∀ W : World, Bl wr W → W.cell? ⟨bf, off2 + q * 2, none⟩ = some (.int .i64 zr)) := fun W hb => (Below.cell hb (p := ⟨bf, off2 + q * 2, none⟩) hbw).trans e0
              have hr3 : (1 : Int) ≤ xr := by omega
              have hr4 : (0 : Int) < xr := by omega
              go_wp2_with fail
              refine (stands_any (q : Int) (k : Int) Ax right.length cx right _ B rfl (by omega) (HRX.out.bl hBw HB2.out) (Nat.le_trans hBw HB2.out.size)).mono ?_
              rintro e w3 ⟨rfl, hb3⟩
              have HB3 := Lib.hid (HB2.out.trans hb3)
              have HF3 := Lib.hid (HF2.out.bl hb3)
              have HG3 := Lib.hid (HKr.out.bl HB3.out)
              clear hb3 g1 g2 g3 glt f0 f1 hc0 hc1 e0
              cases hv : syHas (k : Int) right with
              | false =>
                rw [hv, Bool.and_false] at HV
                have HX := Lib.hid (HBad.out HV.out)
                clear hv
                go_wp2_with fail
                go_ret
                exact ⟨by rw [HX.out]; rfl, HB1.out.trans (HBr.out.trans HB3.out)⟩
              | true =>
                rw [hv, Bool.and_true] at HV
                clear hv
                have g3 : w3.cell? ⟨w.heap.size, 3, none⟩ = some (.slice (some ⟨b, off, none⟩) len c) := HG3.out.cell 3
                have glt : w.heap.size < w3.heap.size := HG3.out.lt
                have k0 : w3.cell? ⟨wr.heap.size, 0, none⟩ = some (.int .i64 xr) := HF3.out.cell 0
                have k1 : w3.cell? ⟨wr.heap.size, 1, none⟩ = some (.int .i64 (p : Int)) := HF3.out.cell 1
                have klt : wr.heap.size < w3.heap.size := HF3.out.lt
                have hc0 := HC0.out w3 HB3.out
                have e0 := HE0.out w3 HB3.out
                have hbw3 : b < w3.heap.size := Nat.lt_of_lt_of_le hbw2 HB3.out.size
                have hbw4 : bf < w3.heap.size := Nat.lt_of_lt_of_le hbw HB3.out.size
                by_cases z1 : zr < 1
                · have HX := Lib.hid (HBad.out (by rw [HV.out]; exact decide_eq_false (by omega)))
                  go_wp2_with fail
                  go_ret
                  exact ⟨by rw [HX.out]; rfl, HB1.out.trans (HBr.out.trans HB3.out)⟩
                by_cases z2 : xr ≤ zr
                · have HX := Lib.hid (HBad.out (by rw [HV.out]; exact decide_eq_false (by omega)))
                  go_wp2_with fail
                  go_ret
                  exact ⟨by rw [HX.out]; rfl, HB1.out.trans (HBr.out.trans HB3.out)⟩
                have HX := Lib.hid (HGood.out (.inr (by rw [HV.out]; exact decide_eq_true (by omega))))
                go_wp2_with fail
                go_roundw
                case rel => exact ⟨k + 1, by omega, by go_num, HX.out, HBr.out.trans HB3.out⟩
                case measure => simp [intOf]; omega
            · have HX : Hid (eshowsB ⟨t, (lf : Int), (st : Int), ps⟩ l = true) := eshowsB_all HOK.out HN.out HS2.out (by
                have h := HT.out
                rwa [show k = l.length by have := HLF.out; omega] at h)
              go_wp2_with fail
              go_ret
              exact ⟨by rw [HX.out]; rfl, HB1.out.trans HBr.out⟩
        · have hq2 : (xp != 0) = true := by simpa using h2
          have HV := Lib.hid (HSt.out (fun e => h2 e.2))
          clear h2
          go_wp2_with fail
          go_ret
          exact ⟨by rw [HV.out]; rfl, HB1.out⟩
      · have hq2 : (xr != 1) = true := by simpa using h1
        have HV := Lib.hid (HSt.out (fun e => h1 e.1))
        clear h1
        go_wp2_with fail
        go_ret
        exact ⟨by rw [HV.out]; rfl, HB1.out⟩
    · have hq : ((lf : Int) != n) = true := by simpa using hne
      have HV : Hid (eshowsB ⟨t, n, (st : Int), ps⟩ l = false) := eshowsB_len (by have := HLF.out; omega)
      clear hne
      go_wp2_with fail
      go_ret
      exact ⟨by rw [HV.out]; rfl, HB1.out⟩
end Go.Proofs.Ythjaidaibpdamaa
