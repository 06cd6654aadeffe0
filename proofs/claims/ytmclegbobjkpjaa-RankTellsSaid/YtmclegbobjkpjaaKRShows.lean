/- The reference's Shows: do facts show ranks? -/
import Derived.Test.YtmclegbobjkpjaaKShow
import Derived.Test.YtmclegbobjkpjaaGRRight
import Derived.RegionTactic
import Derived.Deep.QuietTactic
import Derived.BigQuiet
namespace Go.Proofs.Ytmclegbobjkpjaa
open Go.RowKit

section
variable {terms : Bool} {ps : List Gr.Pr} {l : List Fc} {non : Int} {xr xp : Int}
theorem showOne_neg (h : xr < 0) : showOne terms ps l non ⟨xr, xp⟩ = false := by
  unfold showOne
  rw [if_pos (by show xr < 1; omega)]
  exact decide_eq_false (fun e => by have : xr = 0 := e.1; omega)
theorem showOne_zero (h : xp ≠ 0) : showOne terms ps l non ⟨0, xp⟩ = false := by
  unfold showOne
  rw [if_pos (by show (0 : Int) < 1; omega)]
  exact decide_eq_false (fun e => h e.2)
theorem showOne_none : showOne terms ps l non ⟨0, 0⟩ = true := by
  unfold showOne
  rw [if_pos (by show (0 : Int) < 1; omega)]
  exact decide_eq_true ⟨rfl, rfl⟩
theorem showOne_pos (h : 1 ≤ xr) : showOne terms ps l non ⟨xr, xp⟩ = (hasPr ps non xp && leansB terms l xr (rightOf ps xp)) := by
  unfold showOne
  rw [if_neg (by show ¬ xr < 1; omega)]
end

set_option maxRecDepth 100000 in
set_option maxHeartbeats 4000000 in
theorem rshows_any (t n s : Int) (A : Option Addr) (len c : Nat) (ps : List Gr.Pr) (Af : Option Addr) (lf cf : Nat) (l : List Fc) (terms : Bool) (w : World) (B : Nat)
    (hlen : len = ps.length) (hmax : len ≤ 9223372036854775807) (hr : Prs w B A ps) (hlf : lf = l.length) (hmf : lf ≤ 9223372036854775807) (hrl : Rd w B Af (fcRow l)) (hB : B ≤ w.heap.size) :
    Calls Try.prog 13 #[.agg #[.int .i64 t, .int .i64 n, .int .i64 s, .slice A len c], .slice Af lf cf, .bool terms] w fun e w' =>
      e = .returned (.bool (showsB terms ⟨t, n, s, ps⟩ l)) ∧ Bl w w' := by
  have HL := Lib.hid hlen; clear hlen
  have HA := Lib.hid hr; clear hr
  have HLF := Lib.hid hlf; clear hlf
  have HF := Lib.hid hrl; clear hrl
  have HB : Hid (Bl w (w.alloc (.cells #[.int .i64 t, .int .i64 n, .int .i64 s, .slice A len c] 24))) := (Bl.refl w).alloc _
  have HG : Hid (Bk (w.alloc (.cells #[.int .i64 t, .int .i64 n, .int .i64 s, .slice A len c] 24)) w.heap.size 24 #[.int .i64 t, .int .i64 n, .int .i64 s, .slice A len c]) := Bk.new w _ _
  go_enter Try.func13, Try.ntmps13
  go_wp2_with fail
  refine (rright_any t n s A len c ps _ B HL.out hmax (HA.out.bl hB HB.out) (Nat.le_trans hB HB.out.size)).mono ?_
  rintro e w1 ⟨rfl, hb1⟩
  have HB1 := Lib.hid (HB.out.trans hb1)
  have HG1 := Lib.hid (HG.out.bl hb1)
  clear hb1
  cases hok : okB ⟨t, n, s, ps⟩ with
  | false =>
    have HV := Lib.hid (showsB_bad (terms := terms) (l := l) hok)
    clear hok
    go_wp2_with fail
    go_ret
    exact ⟨by rw [HV.out]; rfl, HB1.out⟩
  | true =>
    obtain ⟨n1, n2, n3⟩ := ok_nons hok
    have hl60 : len ≤ 60 := by have := HL.out; omega
    have HOK := Lib.hid hok; clear hok
    have g1 : w1.cell? ⟨w.heap.size, 1, none⟩ = some (.int .i64 n) := HG1.out.cell 1
    have glt : w.heap.size < w1.heap.size := HG1.out.lt
    by_cases hne : (lf : Int) = n
    · have hq : ((lf : Int) != n) = false := by simpa using hne
      have HN : Hid ((l.length : Int) = n) := by have := HLF.out; show (l.length : Int) = n; omega
      subst hne
      go_wp2_with fail
      clear g1 glt hq
      go_loopw [7] (fun i wr => ∃ k : Nat, k ≤ lf ∧ i = .int .i64 k ∧ Hid (showTo terms ps l k) ∧ Hid (Bl w1 wr)) (fun i _ => lf - (intOf i).toNat)
      case atStart => exact ⟨0, Nat.zero_le _, rfl, showTo_zero, Bl.refl _⟩
      case round =>
        obtain ⟨k, hk, rfl, HT, HBr⟩ := hrel
        obtain ⟨wo, rfl⟩ : ∃ wo : World, wo = wr := ⟨_, rfl⟩
        have HKr := Lib.hid (HG1.out.bl HBr.out)
        have g1 : wo.cell? ⟨w.heap.size, 1, none⟩ = some (.int .i64 (lf : Int)) := HKr.out.cell 1
        have g3 : wo.cell? ⟨w.heap.size, 3, none⟩ = some (.slice A len c) := HKr.out.cell 3
        have glt : w.heap.size < wo.heap.size := HKr.out.lt
        by_cases hlt : k < lf
        · have hj : k < l.length := by have := HLF.out; omega
          have HBw := Lib.hid (HB1.out.trans HBr.out)
          have hBw : B ≤ wo.heap.size := Nat.le_trans hB HBw.out.size
          have HGood := Lib.hid (showTo_succ HT.out hj)
          have HBad := Lib.hid (fun h => showsB_one (t := t) (n := (lf : Int)) (s := s) (terms := terms) (ps := ps) hj h)
          obtain ⟨bf, off2, rfl, hbf, f0, f1⟩ := (HF.out.bl hB HBw.out).fact hj
          generalize l[k] = x at f0 f1 HGood HBad
          obtain ⟨xr, xp⟩ := x
          simp only at f0 f1
          have hbw : bf < wo.heap.size := by omega
          clear hj
          by_cases r0 : xr < 0
          · have HX := Lib.hid (HBad.out (showOne_neg r0))
            go_wp2_with fail
            go_ret
            exact ⟨by rw [HX.out]; rfl, (HB1.out.trans HBr.out).alloc _⟩
          by_cases r1 : xr = 0
          · subst r1
            by_cases p0 : xp = 0
            · subst p0
              have HX := Lib.hid (HGood.out showOne_none)
              go_wp2_with fail
              go_roundw
              case rel => exact ⟨k + 1, by omega, by go_num, HX.out, HBr.out.alloc _⟩
              case measure => simp [intOf]; omega
            · have hq : (xp != 0) = true := by simpa using p0
              have HX := Lib.hid (HBad.out (showOne_zero p0))
              clear p0
              go_wp2_with fail
              go_ret
              exact ⟨by rw [HX.out]; rfl, (HB1.out.trans HBr.out).alloc _⟩
          have hq : (xr == 0) = false := by simpa using r1
          have HV := Lib.hid (showOne_pos (terms := terms) (ps := ps) (l := l) (non := (k : Int)) (xp := xp) (show 1 ≤ xr by omega))
          by_cases p0 : xp < 0
          · have HX := Lib.hid (HBad.out (by rw [HV.out, hasPr_no (.inl p0)]; rfl))
            go_wp2_with fail
            go_ret
            exact ⟨by rw [HX.out]; rfl, (HB1.out.trans HBr.out).alloc _⟩
          by_cases p1 : (len : Int) ≤ xp
          · have HX := Lib.hid (HBad.out (by rw [HV.out, hasPr_no (.inr (by have := HL.out; omega))]; rfl))
            go_wp2_with fail
            go_ret
            exact ⟨by rw [HX.out]; rfl, (HB1.out.trans HBr.out).alloc _⟩
          obtain ⟨p, rfl⟩ : ∃ p : Nat, xp = (p : Int) := ⟨xp.toNat, by omega⟩
          have hpl : p < len := by omega
          have hp : p < ps.length := by have := HL.out; omega
          obtain ⟨b, off, Ax, cx, rfl, hbB, hrx, hc0, hc1⟩ := (HA.out.bl hB HBw.out).at_ hp
          have hbw2 : b < wo.heap.size := by omega
          obtain ⟨⟨o1, o2⟩, o3, o4⟩ := ok_syms HOK.out hp
          have HS : Hid (∀ x ∈ ps[p].right, x.non = true → 0 ≤ x.n ∧ x.n < (lf : Int)) := o4
          by_cases hle : ps[p].left = (k : Int)
          · have HYes := Lib.hid (hasPr_yes hp hle)
            have HRo := Lib.hid (rightOf_at hp)
            rw [hle] at hc0
            have hrl8 : ps[p].right.length ≤ 8 := o3
            have HRx := Lib.hid (hrx.alloc hBw (.cells #[.int .i64 xr, .int .i64 (p : Int)] 33))
            clear hle o1 o2 o3 o4 hrx
            generalize ps[p].right = right at *
            clear hp
            have HB2 : Hid (Bl wo (wo.alloc (.cells #[.int .i64 xr, .int .i64 (p : Int)] 33))) := (Bl.refl wo).alloc _
            have HF2 := Lib.hid (Bk.new wo 33 #[.int .i64 xr, .int .i64 (p : Int)])
            have HG2 := Lib.hid (HKr.out.alloc (.cells #[.int .i64 xr, .int .i64 (p : Int)] 33))
            have hBw2 : B ≤ (wo.alloc (.cells #[.int .i64 xr, .int .i64 (p : Int)] 33)).heap.size := by simp; omega
            have HC1 : Hid (∀ W : World, Bl wo W → W.cell? ⟨b, off + p * 2 + 1, none⟩ = some (.slice Ax right.length cx)) := fun W hb => (Below.cell hb (p := ⟨b, off + p * 2 + 1, none⟩) hbw2).trans hc1
            go_wp2_with fail
            generalize hw2 : wo.alloc (.cells #[.int .i64 xr, .int .i64 (p : Int)] 33) = w2 at HB2 HF2 HG2 hBw2 HRx ⊢
            have HW2 := Lib.hid hw2; clear hw2
            obtain ⟨gf, hgf⟩ : ∃ gf : Nat, gf = wo.heap.size := ⟨_, rfl⟩
            rw [← hgf] at HF2 ⊢
            have HGF := Lib.hid hgf; clear hgf
            clear g1 g3 glt f0 f1 hc0 hc1
            go_loopw [9] (fun i wr => ∃ j : Nat, j ≤ right.length ∧ i = .int .i64 j ∧ Hid (∀ x ∈ right.take j, leanS terms l xr x = true) ∧ Hid (Bl w2 wr)) (fun i _ => right.length - (intOf i).toNat)
            case atStart => exact ⟨0, Nat.zero_le _, rfl, by simp [Hid], Bl.refl w2⟩
            case round =>
              obtain ⟨j, hjl, rfl, HTj, HBj⟩ := hrel
              have HGj := Lib.hid (HG2.out.bl HBj.out)
              have HFj := Lib.hid (HF2.out.bl HBj.out)
              have HBv := Lib.hid (HB2.out.trans HBj.out)
              have g3 : wr.cell? ⟨w.heap.size, 3, none⟩ = some (.slice (some ⟨b, off, none⟩) len c) := HGj.out.cell 3
              have glt : w.heap.size < wr.heap.size := HGj.out.lt
              have p0 : wr.cell? ⟨gf, 0, none⟩ = some (.int .i64 xr) := HFj.out.cell 0
              have p1 : wr.cell? ⟨gf, 1, none⟩ = some (.int .i64 (p : Int)) := HFj.out.cell 1
              have plt : gf < wr.heap.size := HFj.out.lt
              have hc1 := HC1.out wr HBv.out
              have hbw3 : b < wr.heap.size := Nat.lt_of_lt_of_le hbw2 HBv.out.size
              by_cases hlt2 : j < right.length
              · obtain ⟨bx, ox, rfl, hbx, q0, q1⟩ := (HRx.out.bl hBw2 HBj.out).sym hlt2
                have hbxw : bx < wr.heap.size := Nat.lt_of_lt_of_le hbx (Nat.le_trans hBw2 HBj.out.size)
                have HBad2 := Lib.hid (fun h => leansB_one (terms := terms) (l := l) (r := xr) hlt2 h)
                have HGood2 := Lib.hid (all_snoc hlt2 HTj.out)
                have HSk := Lib.hid (HS.out _ (List.getElem_mem hlt2))
                have hjj : (0 : Int) ≤ (j : Int) := by omega
                generalize right[j] = y at *
                obtain ⟨yb, yn⟩ := y
                simp only at q0 q1
                cases yb with
                | false =>
                  cases terms with
                  | false =>
                    have HX := Lib.hid (HBad.out (by rw [HV.out, HRo.out, HBad2.out rfl, Bool.and_false]))
                    go_wp2_with fail
                    go_quiet (fail)
                    go_wp2_with fail
                    go_ret
                    exact ⟨by rw [HX.out]; rfl, by first | exact ((HB1.out.trans (HBr.out.trans HBv.out)).alloc _).drewN _ | exact ((HB1.out.trans (HBr.out.trans HBv.out)).alloc _).drew⟩
                  | true =>
                    have HY := Lib.hid (HGood2.out rfl)
                    go_wp2_with fail
                    go_quiet (fail)
                    go_wp2_with fail
                    go_roundw
                    case rel => exact ⟨j + 1, by omega, by go_num, HY.out, by first | exact (HBj.out.alloc _).drewN _ | exact (HBj.out.alloc _).drew⟩
                    case measure => simp [intOf]; omega
                | true =>
                  obtain ⟨m, hme, hmlt⟩ : ∃ m : Nat, yn = (m : Int) ∧ m < lf := by
                    have := HSk.out rfl
                    exact ⟨yn.toNat, by simp only at this; omega, by simp only at this; omega⟩
                  subst hme
                  have hml : m < l.length := by have := HLF.out; omega
                  obtain ⟨bm, om, e, hbm, f0, f1⟩ := (HF.out.bl hB (HBw.out.trans HBv.out)).fact hml
                  cases e
                  have hbw4 : bf < wr.heap.size := Nat.lt_of_lt_of_le hbw HBv.out.size
                  have HYes2 := Lib.hid (fun h1 h2 => leanS_yes (terms := terms) (r := xr) hml h1 h2)
                  have HNo2 := Lib.hid (fun h => leanS_no (terms := terms) (r := xr) hml h)
                  generalize l[m] = z at f0 f1 HYes2 HNo2
                  obtain ⟨zr, zp⟩ := z
                  simp only at f0 f1
                  have hmm : (0 : Int) ≤ (m : Int) := by omega
                  have f0a : (wr.alloc (.cells #[.bool true, .int .i64 (m : Int)] 42)).cell? ⟨bf, off2 + m * 2, none⟩ = some (.int .i64 zr) := (World.cell?_alloc_lt _ _ _ hbw4).trans f0
                  clear hml f1
                  by_cases z1 : zr < 1
                  · have HX := Lib.hid (HBad.out (by rw [HV.out, HRo.out, HBad2.out (HNo2.out (.inl z1)), Bool.and_false]))
                    have hd1 : decide (zr < 1) = true := decide_eq_true z1
                    go_wp2_with fail
                    go_quiet (fail)
                    go_wp2_with fail
                    go_ret
                    exact ⟨by rw [HX.out]; rfl, by first | exact ((HB1.out.trans (HBr.out.trans HBv.out)).alloc _).drewN _ | exact ((HB1.out.trans (HBr.out.trans HBv.out)).alloc _).drew⟩
                  have hd1 : decide (zr < 1) = false := decide_eq_false z1
                  by_cases z2 : xr ≤ zr
                  · have HX := Lib.hid (HBad.out (by rw [HV.out, HRo.out, HBad2.out (HNo2.out (.inr z2)), Bool.and_false]))
                    have hd2 : decide (xr ≤ zr) = true := decide_eq_true z2
                    go_wp2_with fail
                    go_quiet (fail)
                    go_wp2_with fail
                    go_ret
                    exact ⟨by rw [HX.out]; rfl, by first | exact ((HB1.out.trans (HBr.out.trans HBv.out)).alloc _).drewN _ | exact ((HB1.out.trans (HBr.out.trans HBv.out)).alloc _).drew⟩
                  have hd2 : decide (xr ≤ zr) = false := decide_eq_false z2
                  have HY := Lib.hid (HGood2.out (HYes2.out (by show 1 ≤ zr; omega) (by show zr < xr; omega)))
                  go_wp2_with fail
                  go_quiet (fail)
                  go_wp2_with fail
                  go_roundw
                  case rel => exact ⟨j + 1, by omega, by go_num, HY.out, by first | exact (HBj.out.alloc _).drewN _ | exact (HBj.out.alloc _).drew⟩
                  case measure => simp [intOf]; omega
              · have HX := Lib.hid (HGood.out (by
                  rw [HV.out, HRo.out, HYes.out, Bool.true_and]
                  exact leansB_all (by
                    have h := HTj.out
                    rw [List.take_of_length_le (by omega)] at h
                    exact h)))
                go_wp2_with fail
                go_roundw
                case rel => exact ⟨k + 1, by omega, by go_num, HX.out, HBr.out.trans HBv.out⟩
                case measure => simp [intOf]; omega
          · have HX := Lib.hid (HBad.out (by rw [HV.out, hasPr_other hp hle]; rfl))
            have hq2 : (ps[p].left != (k : Int)) = true := by simpa using hle
            clear hle o1 o2 o3 o4 hrx
            generalize ps[p].left = left at *
            go_wp2_with fail
            go_ret
            exact ⟨by rw [HX.out]; rfl, (HB1.out.trans HBr.out).alloc _⟩
        · have HX : Hid (showsB terms ⟨t, (lf : Int), s, ps⟩ l = true) := showsB_all HOK.out HN.out (by
            have h := HT.out
            rwa [show k = l.length by have := HLF.out; omega] at h)
          go_wp2_with fail
          go_ret
          exact ⟨by rw [HX.out]; rfl, HB1.out.trans HBr.out⟩
    · have hq : ((lf : Int) != n) = true := by simpa using hne
      have HV : Hid (showsB terms ⟨t, n, s, ps⟩ l = false) := showsB_len (by have := HLF.out; omega)
      clear hne
      go_wp2_with fail
      go_ret
      exact ⟨by rw [HV.out]; rfl, HB1.out⟩
end Go.Proofs.Ytmclegbobjkpjaa
