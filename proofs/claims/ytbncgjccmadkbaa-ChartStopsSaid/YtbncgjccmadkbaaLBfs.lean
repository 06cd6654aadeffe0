/- left.way: ways are gone on with, shorter ones first, till one comes back. -/
import Derived.Test.YtbncgjccmadkbaaLMem
import Derived.Test.YtbncgjccmadkbaaPrC
import Derived.Deep.LoopGhost
import Derived.Deep.RegionHeld3
import Derived.Deep.DeepCutAuto
namespace Go.Proofs.Ytbncgjccmadkbaa
open Go.RowKit

/-- What is left: a way, or nil, where none is. -/
def WayPost (ps : List Gr.Pr) (nl : Nat → Bool) (m : Nat) (w : World) (e : Ending) (w' : World) : Prop :=
  ((¬ Lf.LeftRec ps nl m ∧ e = .returned (.slice none 0 0)) ∨
    ∃ (g cap : Nat) (l : List Lf.Stp), Lf.Way ps nl m l m ∧ l ≠ [] ∧ l.length ≤ 25 ∧ e = .returned (.slice (some ⟨g, 0, none⟩) l.length cap) ∧ Rd w' w'.heap.size (some ⟨g, 0, none⟩) (stRow l)) ∧ Bl w w'
theorem ways_info : (Try.prog.info? 121).map (fun i => (i.zero, i.size, i.bytes)) = some (some (.slice none 0 0), 1, 24) := by kernel_rfl

set_option maxRecDepth 100000 in
set_option maxHeartbeats 8000000 in
theorem way_any (t n s : Int) (A : Option Addr) (len c : Nat) (ps : List Gr.Pr) (nl : Nat → Bool) (bm m : Nat) (w : World) (B : Nat) (hlen : len = ps.length) (hr : Prs w B A ps) (hB : B ≤ w.heap.size) (hok : okB ⟨t, n, s, ps⟩ = true) (hm : m < n.toNat) (hmap : ToMap w bm ps nl) :
    Calls Try.prog 76 #[.agg #[.int .i64 t, .int .i64 n, .int .i64 s, .slice A len c], .map (some bm), .int .i64 (m : Int)] w (WayPost ps nl m w) := by
  obtain ⟨i0, hi, hz0, hz1, hz2⟩ := info_parts step_info
  obtain ⟨j0, gi, gz0, gz1, gz2⟩ := info_parts ways_info
  have HL := Lib.hid hlen; clear hlen
  have HP : Hid (∀ w', Bl w w' → Prs w' w'.heap.size A ps) := fun _ hb => (hr.bl hB hb).more (Nat.le_trans hB hb.size)
  clear hr hB
  have HMp := Lib.hid hmap; clear hmap
  have HOK := Lib.hid hok
  obtain ⟨n1, n2, n3⟩ := ok_nons hok
  obtain ⟨N, rfl⟩ : ∃ N : Nat, n = (N : Int) := ⟨n.toNat, by omega⟩
  have hmN : m < N := by omega
  have h8 : ∀ p ∈ ps, p.right.length ≤ 8 := fun p hp => by
    obtain ⟨j, hj, rfl⟩ := List.mem_iff_getElem.1 hp
    exact (ok_syms hok hj).2.1
  have h0 : ∀ p ∈ ps, 0 ≤ p.left := fun p hp => by
    obtain ⟨j, hj, rfl⟩ := List.mem_iff_getElem.1 hp
    exact (ok_syms hok hj).1.1
  have HSm : Hid (∀ x, Lf.isStep ps nl x = true → Small x) := fun x hx => small_step n3 h8 hx
  have HTo : Hid (∀ x, Lf.isStep ps nl x = true → Lf.to ps x < N) := fun x hx => (Lf.step_nums (g := ⟨t, (N : Int), s, ps⟩) ((okB_iff _).1 hok) hx).2
  have HOu : Hid (∀ a x, x ∈ Lf.outs ps nl a ↔ Lf.isStep ps nl x = true ∧ Lf.frm ps x = a) := fun a x => Lf.mem_outs h0
  clear hok hm h8 h0 n1
  have HK0 : Hid (Bk ((w.alloc (.cells #[.int .i64 t, .int .i64 N, .int .i64 s, .slice A len c] 24)).alloc (.cells #[.slice none 0 0] 121)) w.heap.size 24 #[.int .i64 t, .int .i64 N, .int .i64 s, .slice A len c]) := (Bk.new w _ _).alloc _
  have HB0 : Hid (Bl w ((w.alloc (.cells #[.int .i64 t, .int .i64 N, .int .i64 s, .slice A len c] 24)).alloc (.cells #[.slice none 0 0] 121))) := ((Bl.refl w).alloc _).alloc _
  have HW0 : Hid (Win ((w.alloc (.cells #[.int .i64 t, .int .i64 N, .int .i64 s, .slice A len c] 24)).alloc (.cells #[.slice none 0 0] 121)) (w.heap.size + 1) 121 (.slice (some ⟨w.heap.size + 1, 0, none⟩) 1 1) [.slice none 0 0]) := by
    have h := Win.one (base := w.heap.size + 1) (w.alloc (.cells #[.int .i64 t, .int .i64 N, .int .i64 s, .slice A len c] 24)) 121 (.slice none 0 0) (by simp)
    rw [World.size_alloc] at h
    exact h
  have HQ0 : Hid (QRow ((w.alloc (.cells #[.int .i64 t, .int .i64 N, .int .i64 s, .slice A len c] 24)).alloc (.cells #[.slice none 0 0] 121)) [.slice none 0 0] [[]]) := ⟨⟨none, 0, rfl, Nat.le_refl _, RdT.nil, fun _ => rfl⟩, trivial⟩
  have HF0 : Hid (Lf.Bfs ps nl m none [[]] (fun _ => false)) := Lf.Bfs.begin_
  have hz : (0 : Nat).testBit = fun _ => false := by funext k; exact Nat.zero_testBit k
  have HU0 : Hid (2 * Lf.unmet N (0 : Nat).testBit + 1 ≤ 49) := by have := Lf.unmet_le N (0 : Nat).testBit; show _ ≤ _; omega
  have HN0 : Hid (∀ l ∈ ([[]] : List (List Lf.Stp)), l.length + Lf.unmet N (0 : Nat).testBit ≤ N) := fun l hl => by rw [List.mem_singleton.1 hl]; have := Lf.unmet_le N (0 : Nat).testBit; show 0 + _ ≤ _; omega
  rw [← hz] at HF0
  clear hz
  go_enter Try.func76, Try.ntmps76
  go_wp2_with fail
  go_loopg [7, 8] 49 (fun g v u wr => ∃ (Q : List (List Lf.Stp)) (cs : List Value) (Aq : Option Addr) (lq cq z : Nat), v = .slice Aq lq cq ∧ u = .int .u32 (z : Int) ∧ Hid (z < 4294967296) ∧ Hid (Lf.Bfs ps nl m none Q z.testBit) ∧ Hid (Win wr (w.heap.size + 1) 121 (.slice Aq lq cq) cs) ∧ Hid (QRow wr cs Q) ∧
    Hid (2 * Lf.unmet N z.testBit + Q.length ≤ g ∧ g ≤ 49) ∧ Hid (∀ l ∈ Q, l.length + Lf.unmet N z.testBit ≤ N) ∧ Hid (Bk wr w.heap.size 24 #[.int .i64 t, .int .i64 N, .int .i64 s, .slice A len c]) ∧ Hid (Bl w wr))
  case atStart => exact ⟨[[]], _, _, _, _, 0, rfl, rfl, (show 0 < 4294967296 by decide), HF0.out, HW0.out, HQ0.out, ⟨HU0.out, Nat.le_refl _⟩, HN0.out, HK0.out, HB0.out⟩
  case round =>
    obtain ⟨Q, cs, Aq, lq, cq, z, rfl, rfl, HZ, HF, HW, HQ, HG, HN, HK, HB⟩ := hrel
    cases Q with
    | nil =>
      obtain rfl : cs = [] := List.eq_nil_of_length_eq_zero HQ.out.len
      have hz : lq = 0 := by
        obtain ⟨g', off, cap, cu, he, _⟩ := HW.out
        cases he
        rfl
      subst hz
      have HX := Lib.hid (Lf.Bfs.none_left HF.out)
      go_wp2_with fail
      go_ret
      exact ⟨.inl ⟨HX.out, rfl⟩, HB.out⟩
    | cons l Q =>
      obtain ⟨c0, cs, rfl⟩ : ∃ c0 r, cs = c0 :: r := by
        cases cs with
        | nil => exact HQ.out.elim
        | cons c0 r => exact ⟨c0, r, rfl⟩
      obtain ⟨⟨A0, d0, rfl, hd0, hr0, ha0⟩, hq0⟩ := HQ.out
      obtain ⟨hf0, hw0⟩ := HF.out.pop
      have hW := HW.out
      obtain ⟨gq, oq, cap, hv, hc, hgl, hcap⟩ := Win.head hW
      cases hv
      have HWp := Lib.hid (Win.pop hW)
      have hlN := HN.out l (by simp)
      have HN1 : Hid (∀ l ∈ Q, l.length + Lf.unmet N z.testBit ≤ N) := fun x hx => HN.out x (by simp [hx])
      have hqn := hq0.len
      have HG1 : Hid (2 * Lf.unmet N z.testBit + (Q.length + 1) ≤ gk ∧ gk ≤ 49) := HG.out
      generalize hAp : (if cq = 1 then (⟨gq, oq, none⟩ : Addr) else ⟨gq, oq + 1, none⟩) = Ap at HWp
      have hsl : (Instr.slice 139 (.slice (some ⟨gq, oq, none⟩) (cs.length + 1) cq) (some (.int .i64 1)) none none).run Try.prog wr = .ok (.slice (some Ap) cs.length (cq - 1)) wr := by
        have h := run_slice_tail (P := Try.prog) (t := 139) (e := 121) (size := 1) Try.underlying139 (by kernel_rfl) (some ⟨gq, oq, none⟩) (cs.length + 1) cq 1 1 rfl (by omega) wr
        rw [h, ← hAp]
        congr 2
        split <;> rfl
      have HD0 := Lib.hid hd0; have HR0 := Lib.hid hr0; have HA0 := Lib.hid ha0; have HQ1 := Lib.hid hq0; have HF1 := Lib.hid hf0; have HWy := Lib.hid hw0
      have HQn := Lib.hid hqn
      clear hd0 hr0 ha0 hq0 hf0 hw0 hW HW HQ HF HN HG hAp hqn
      have hn1 : (0 : Int) < ((cs.length + 1 : Nat) : Int) := by omega
      have hn2 : (0 : Int) < (cs.length : Int) + 1 := by omega
      have HFin : Hid (∀ x, l[l.length - 1]? = some x → Lf.fin ps m l = Lf.to ps x) := fun x hx => by unfold Lf.fin; rw [List.getLast?_eq_getElem?, hx]
      have HEmp : Hid (l.length = 0 → l = []) := List.eq_nil_of_length_eq_zero
      generalize hll : l.length = ll at *
      have HLl := Lib.hid hll; clear hll
      have k0 : wr.cell? ⟨w.heap.size, 0, none⟩ = some (.int .i64 t) := HK.out.cell 0
      have k1 : wr.cell? ⟨w.heap.size, 1, none⟩ = some (.int .i64 (N : Int)) := HK.out.cell 1
      have k2 : wr.cell? ⟨w.heap.size, 2, none⟩ = some (.int .i64 s) := HK.out.cell 2
      have k3 : wr.cell? ⟨w.heap.size, 3, none⟩ = some (.slice A len c) := HK.out.cell 3
      have klt : w.heap.size < wr.heap.size := HK.out.lt
      have HMr := Lib.hid (HMp.out.bl HB.out)
      have way1 : ∀ (a : Nat), Lf.fin ps m l = a → Calls Try.prog 94 #[.agg #[.int .i64 t, .int .i64 N, .int .i64 s, .slice A len c], .map (some bm), .int .i64 (a : Int)] wr fun e w' =>
          ∃ (S : List Lf.Stp) (A' : Option Addr) (ln c' : Nat), e = .returned (.slice A' ln c') ∧ Hid (ln = S.length) ∧ Hid (∀ x, x ∈ S ↔ Lf.isStep ps nl x = true ∧ Lf.frm ps x = Lf.fin ps m l) ∧ ln ≤ 480 ∧ Hid (RdT w' 138 A' (stRow S)) ∧ Hid (Bl wr w') := by
        intro a ha
        refine (stepsOf_any t N s A len c ps nl bm a _ _ HL.out (HP.out _ HB.out) (Nat.le_refl _) HOK.out HMr.out).mono ?_
        rintro e w1 ⟨A1, ln1, c1, rfl, hn1, h480, ho1, hb1⟩
        exact ⟨_, A1, ln1, c1, rfl, hn1, by rw [ha]; exact HOu.out a, h480, RdT.of_own ho1, hb1⟩
      have HWay := Lib.hid way1
      clear way1
      go_upto_if 24 with fail
      go_cut [10] (fun s10 wx => s10 = .int .i64 (Lf.fin ps m l : Nat) ∧ wx = wr)
      case first =>
        cases ll with
        | zero =>
          have HXf : Hid (Lf.fin ps m l = m) := by rw [HEmp.out rfl]; rfl
          go_wp2_with fail
          go_meet
          exact ⟨by rw [HXf.out], rfl⟩
        | succ k =>
          have hkl : k < l.length := by have := HLl.out; omega
          obtain ⟨b0, o0, rfl, hb0, q0, q1⟩ := HR0.out.rd.stp hkl
          have HXs := Lib.hid (Lf.way_steps HWy.out _ (List.getElem_mem hkl))
          have HXf : Hid (Lf.fin ps m l = Lf.to ps l[k]) := HFin.out _ (List.getElem?_eq_getElem hkl)
          have HXm := Lib.hid (HSm.out _ HXs.out)
          generalize l[k] = x at *
          obtain ⟨xp, xd⟩ := x
          simp only at q0 q1
          have hk1 : (0 : Int) < ((k + 1 : Nat) : Int) := by omega
          go_wp2_with (at_lookup; refine wpList_look rfl (.tmp 25) (.tmp 31) rfl HMr.out (xp, xd) HXm.out HXs.out rfl rfl ?_)
          go_meet
          exact ⟨by rw [HXf.out], rfl⟩
      case rest =>
        obtain ⟨rfl, rfl⟩ := hcut
        have HA1 : Hid (ll = 0 → A0 = none) := fun h => HA0.out (HEmp.out h)
        clear HFin HEmp HA0 HMr
        go_wp2_with fail
        refine (HWay.out _ rfl).mono ?_
        rintro e w1 ⟨S, A1, ln1, c1, rfl, HSl, HS, h480, HRs, HB1⟩
        have HK1 := Lib.hid (HK.out.bl HB1.out)
        have HBw1 := Lib.hid (HB.out.trans HB1.out)
        have HW1 := Lib.hid (HWp.out.bl HB1.out)
        have HQ2 := Lib.hid (HQ1.out.keep (.of_bl HB1.out))
        have HR1 := Lib.hid (HR0.out.keep (.of_bl HB1.out))
        clear k0 k1 k2 k3 klt HWay HB HK HWp HQ1 HR0 HB1
        obtain ⟨G, hG⟩ : ∃ G, G = gk := ⟨gk, rfl⟩
        rw [← hG] at HG1
        go_wp2_with fail
        go_loopg [7, 8, 40] ln1 (fun g v u i wy => ∃ (Q : List (List Lf.Stp)) (cs : List Value) (Aq : Option Addr) (lq cq z j : Nat), j + g = ln1 ∧ v = .slice Aq lq cq ∧ u = .int .u32 (z : Int) ∧ i = .int .i64 (j : Int) ∧ Hid (z < 4294967296) ∧ Hid (Lf.Bfs ps nl m (some (Lf.fin ps m l)) Q z.testBit) ∧
          Hid (∀ (i : Nat) (h : i < S.length), i < j → Lf.Met ps m z.testBit S[i]) ∧ Hid (Win wy (w.heap.size + 1) 121 (.slice Aq lq cq) cs) ∧ Hid (QRow wy cs Q) ∧ Hid (2 * Lf.unmet N z.testBit + (Q.length + 1) ≤ G ∧ G ≤ 49) ∧ Hid (∀ l ∈ Q, l.length + Lf.unmet N z.testBit ≤ N) ∧ Hid (l.length + Lf.unmet N z.testBit ≤ N) ∧ Hid (Bl w wy) ∧ Hid (KeepT 138 w1 wy) ∧ Hid (Bk wy w.heap.size 24 #[.int .i64 t, .int .i64 N, .int .i64 s, .slice A len c]))
        case atStart => exact ⟨Q, cs, _, _, _, z, 0, by omega, rfl, rfl, rfl, HZ.out, HF1.out, fun i h hi => absurd hi (Nat.not_lt_zero i), HW1.out, HQ2.out, HG1.out, HN1.out, (by rw [HLl.out]; exact hlN), HBw1.out, KeepT.refl _ _, HK1.out⟩
        case round =>
          obtain ⟨Q, cs, Aq, lq, cq, z, j, hjg, rfl, rfl, rfl, HZ, HF, HMt, HW, HQ, HG, HN, HlN, HBy, HKt, HKy⟩ := hrel
          cases gk with
          | zero =>
            have hjz : ¬ ((j : Int) < (ln1 : Int)) := by omega
            have HX := Lib.hid (HF.out.close (fun x h1 h2 => by
              have hx : x ∈ S := (HS.out x).2 ⟨h1, h2⟩
              obtain ⟨i, hi, rfl⟩ := List.mem_iff_getElem.1 hx
              exact HMt.out i hi (by have := HSl.out; omega)))
            go_wp2_with fail
            go_roundg (2 * Lf.unmet N z.testBit + Q.length)
            case measure => have h := HG.out; omega
            case rel => exact ⟨Q, cs, _, _, _, z, rfl, rfl, HZ.out, HX.out, HW.out, HQ.out, ⟨Nat.le_refl _, by have h := HG.out; omega⟩, HN.out, HKy.out, HBy.out⟩
          | succ g =>
            have hjl : j < ln1 := by omega
            have hjz : (j : Int) < (ln1 : Int) := by omega
            have hjS : j < S.length := by have := HSl.out; omega
            have HMy := Lib.hid (HMp.out.bl HBy.out)
            have HRy := Lib.hid (HR1.out.keep HKt.out)
            obtain ⟨bs, os, rfl, hbs, p0, p1⟩ := (HRs.out.keep HKt.out).rd.stp hjS
            have hx := (HS.out S[j]).1 (List.getElem_mem hjS)
            have HWy2 : Hid (Lf.Way ps nl m (l ++ [S[j]]) (Lf.to ps S[j])) := Lf.way_snoc HWy.out hx.1 hx.2
            have HXs2 := Lib.hid hx.1
            have HXm2 := Lib.hid (HSm.out _ hx.1)
            have hxN := HTo.out _ hx.1
            have HMn : Hid (∀ (been : Nat → Bool), (∀ (i : Nat) (h : i < S.length), i < j → Lf.Met ps m been S[i]) → Lf.Met ps m been S[j] → ∀ (i : Nat) (h : i < S.length), i < j + 1 → Lf.Met ps m been S[i]) := fun been h1 h2 i h h3 => by
              rcases Nat.lt_or_ge i j with h4 | h4
              · exact h1 i h h4
              · obtain rfl : i = j := by omega
                exact h2
            generalize S[j] = y at *
            obtain ⟨yp, yd⟩ := y
            simp only at p0 p1
            clear hx hjS
            generalize htx : Lf.to ps (yp, yd) = tx at *
            have HTx := Lib.hid htx
            have HSt := Lib.hid (Bk.new wr 138 #[.int .i64 yp, .int .i64 yd])
            have HBs : Hid (Bl wr (wr.alloc (.cells #[.int .i64 yp, .int .i64 yd] 138))) := (Bl.refl wr).alloc _
            clear htx
            have HPut : Hid (tx ≠ m → z.testBit tx = false → ∃ z2 : Nat, Hid (bits .or .u32 (z : Int) ((2 : Int) ^ tx % 4294967296) = (z2 : Int)) ∧ Hid (z2 < 4294967296) ∧ Hid (Lf.Bfs ps nl m (some (Lf.fin ps m l)) (Q ++ [l ++ [(yp, yd)]]) z2.testBit) ∧
                Hid (∀ (i : Nat) (h : i < S.length), i < j + 1 → Lf.Met ps m z2.testBit S[i]) ∧ Hid (∀ x ∈ Q ++ [l ++ [(yp, yd)]], x.length + Lf.unmet N z2.testBit ≤ N) ∧ Hid (l.length + Lf.unmet N z2.testBit ≤ N) ∧ Hid (2 * Lf.unmet N z2.testBit + ((Q ++ [l ++ [(yp, yd)]]).length + 1) ≤ G ∧ G ≤ 49)) := by
              intro htm hbit
              have hBn : ∀ k, (z ||| 2 ^ tx).testBit k = (z.testBit k || decide (k = tx)) := Lf.bit_or z tx
              have hUn : Lf.unmet N (z ||| 2 ^ tx).testBit < Lf.unmet N z.testBit := Lf.unmet_lt hxN hbit hBn
              have h1 := HlN.out
              have h2 := HG.out
              refine ⟨z ||| 2 ^ tx, bit_put HZ.out (by omega), Lf.bit_lt HZ.out (by omega), HF.out.push (by rw [HTx.out]; exact HWy2.out) (by rw [HTx.out]; exact hBn),
                HMn.out (z ||| 2 ^ tx).testBit (fun i h h2 => ⟨(HMt.out i h h2).1, by rw [hBn, (HMt.out i h h2).2]; rfl⟩) ⟨by rw [HTx.out]; exact htm, by rw [HTx.out, hBn, decide_eq_true rfl, Bool.or_true]⟩, ?_, ?_, ?_, h2.2⟩
              · intro x hx
                rcases List.mem_append.1 hx with hx | hx
                · have := HN.out x hx; omega
                · rw [List.mem_singleton.1 hx, List.length_append]
                  show l.length + 1 + _ ≤ _
                  omega
              · show _ ≤ _; omega
              · rw [List.length_append]; show _ + (_ + 1 + 1) ≤ _; omega
            go_upto_region 10 with fail
            go_cut [13] (fun s13 wx => ∃ (g3 d3 : Nat), s13 = .slice (some ⟨g3, 0, none⟩) (ll + 1) d3 ∧ Hid (RdT wx 138 (some ⟨g3, 0, none⟩) (stRow (l ++ [(yp, yd)]))) ∧ Hid (ll + 1 ≤ d3) ∧ Hid (Bl wr wx) ∧ Hid (Bk wx wr.heap.size 138 #[.int .i64 yp, .int .i64 yd]))
            case first =>
              have tk1 : True := trivial
              have HCn : Hid (∀ j u, [Value.int .i64 (yp : Int), .int .i64 (yd : Int)][j]? = some u → ((wr.alloc (.cells #[.int .i64 yp, .int .i64 yd] 138)).drew.alloc (.cells #[.int .i64 yp, .int .i64 yd] 138)).cell? ((⟨wr.heap.size + 1, 0, none⟩ : Addr).add j) = some u) := by
                have h := cells_new (wr.alloc (.cells #[.int .i64 yp, .int .i64 yd] 138)).drew #[.int .i64 yp, .int .i64 yd] 138
                have e : (wr.alloc (.cells #[.int .i64 yp, .int .i64 yd] 138)).drew.heap.size = wr.heap.size + 1 := World.size_alloc _ _
                rw [e] at h
                exact h
              have HRc := Lib.hid (HRy.out.keep (.of_bl ((HBs.out.drew).alloc (.cells #[.int .i64 yp, .int .i64 yd] 138))))
              have HBc := Lib.hid ((HBs.out.drew).alloc (.cells #[.int .i64 yp, .int .i64 yd] 138))
              have HSc := Lib.hid ((HSt.out.drew).alloc (.cells #[.int .i64 yp, .int .i64 yd] 138))
              have hln : ll ≤ 100 := by have := HlN.out; rw [HLl.out] at this; omega
              go_region_held3 (fun w' => w'.cell? ⟨wr.heap.size, 0, none⟩ = some (.int .i64 yp) ∧ w'.cell? ⟨wr.heap.size, 1, none⟩ = some (.int .i64 yd)) (first | exact ⟨HSt.out.cell 0, HSt.out.cell 1⟩ | exact ⟨HSt.out.drew.cell 0, HSt.out.drew.cell 1⟩ | exact ⟨HS3.out.cell 0, HS3.out.cell 1⟩ | exact ⟨HSc.out.cell 0, HSc.out.cell 1⟩) (first
                | (go_at_call 95; have _t := tk1; ((with_reducible refine (clip_any _ _ d0 _ HD0.out).mono ?_); rintro e v2 ⟨rfl, rfl⟩; clear tk1))
                | (refine step_append_clip rfl (.tmp 45) (.tmp 47) 121 rfl 138 i0 (.agg #[.int .i64 0, .int .i64 0]) 2 16 Try.underlying121 hi hz0 hz1 hz2 rfl (by decide) _ _ _ (stRow l) rfl HRc.out.rd ((stRow_len _).trans (by rw [HLl.out])) HA1.out ⟨wr.heap.size + 1, 0, none⟩ 1 [.int .i64 yp, .int .i64 yd] rfl rfl HCn.out (by simp [Value.oneCell']) (by simp only [maxLen]; omega) (by omega) ?_; intro v3 x2 hown2 hg2; obtain ⟨A3, d3, hv3, hd3⟩ := own_form hown2; subst hv3; have HO3 := Lib.hid hown2; have HD3 := Lib.hid hd3; have HB3 := Lib.hid (HBc.out.grown hg2 (fun k hk => by cases hk)); have HS3 := Lib.hid (HSc.out.grown hg2 (by simp)); clear hown2 hg2 hd3)
                | fail)
              all_goals
                obtain ⟨g3, rfl⟩ := own_some HO3.out (by omega)
                go_wp2_with fail
                go_meet
                exact ⟨g3, d3, rfl, (by rw [stRow_snoc]; exact RdT.of_own HO3.out), HD3.out, HB3.out, HS3.out⟩
            case rest =>
              obtain ⟨g3, d3, rfl, HR3, HD3, HB3, HS3⟩ := hcut
              have HMx := Lib.hid (HMy.out.bl HB3.out)
              have HW3 := Lib.hid (HW.out.bl HB3.out)
              have HQ3 := Lib.hid (HQ.out.keep (.of_bl HB3.out))
              have HBw3 := Lib.hid (HBy.out.trans HB3.out)
              have HKt3 := Lib.hid (HKt.out.bl HB3.out)
              have HK3 := Lib.hid (HKy.out.bl HB3.out)
              have s0 : wc.cell? ⟨wr.heap.size, 0, none⟩ = some (.int .i64 (yp : Int)) := HS3.out.cell 0
              have s1 : wc.cell? ⟨wr.heap.size, 1, none⟩ = some (.int .i64 (yd : Int)) := HS3.out.cell 1
              have slt : wr.heap.size < wc.heap.size := HS3.out.lt
              have hxm := HXm2.out
              by_cases htm : tx = m
              · have HBk : Hid (Lf.Way ps nl m (l ++ [(yp, yd)]) m) := by have h := HWy2.out; rw [htm] at h; exact h
                go_wp2_with (at_lookup; refine wpList_look rfl (.tmp 49) (.tmp 50) rfl HMx.out (yp, yd) HXm2.out HXs2.out rfl rfl ?_; rw [HTx.out, htm])
                go_ret
                exact ⟨.inr ⟨g3, d3, l ++ [(yp, yd)], HBk.out, by simp, by have := HlN.out; rw [List.length_append]; show _ + 1 ≤ 25; omega, by simp [HLl.out], HR3.out.rd⟩, HBw3.out⟩
              · have hq : (((tx : Nat) : Int) == (m : Int)) = false := by simp; omega
                have HZl := HZ.out
                cases hbit : z.testBit tx with
                | true =>
                  have hbt : bits .and .u32 ((z : Int) / 2 ^ tx) 1 = 1 := by rw [bit_test tx HZl, hbit]; rfl
                  have HX := Lib.hid (HMn.out z.testBit HMt.out ⟨by rw [HTx.out]; exact htm, by rw [HTx.out]; exact hbit⟩)
                  clear hbit htm HZl
                  go_wp2_with (at_lookup; first | (refine wpList_look rfl (.tmp 49) (.tmp 50) rfl HMx.out (yp, yd) HXm2.out HXs2.out rfl rfl ?_; rw [HTx.out]) | (refine wpList_look rfl (.tmp 56) (.tmp 57) rfl HMx.out (yp, yd) HXm2.out HXs2.out rfl rfl ?_; rw [HTx.out]))
                  go_roundg g
                  case measure => omega
                  case rel => exact ⟨Q, cs, _, _, _, z, j + 1, by omega, rfl, rfl, by go_num, HZ.out, HF.out, HX.out, HW3.out, HQ3.out, HG.out, HN.out, HlN.out, HBw3.out, HKt3.out, HK3.out⟩
                | false =>
                  have hbt : bits .and .u32 ((z : Int) / 2 ^ tx) 1 = 0 := by rw [bit_test tx HZl, hbit]; rfl
                  obtain ⟨z2, HOr, HZ2, HF2, HX, HNew, HLn2, HGn⟩ := HPut.out htm hbit
                  have HQl : Hid (cs.length ≤ 100) := by have h1 := HQ3.out.len; have h2 := HG.out; show _ ≤ _; omega
                  clear hbit htm HZl HPut
                  have HWa : Hid (Win (wc.alloc (.cells #[.slice (some ⟨g3, 0, none⟩) (ll + 1) d3] 121)) (w.heap.size + 1) 121 (.slice Aq lq cq) cs) := HW3.out.bl ((Bl.refl wc).alloc _)
                  have HCe : Hid (∀ j' u, [Value.slice (some ⟨g3, 0, none⟩) (ll + 1) d3][j']? = some u → (wc.alloc (.cells #[.slice (some ⟨g3, 0, none⟩) (ll + 1) d3] 121)).cell? ((⟨wc.heap.size, 0, none⟩ : Addr).add j') = some u) := cell_one_new wc _ _
                  have HSz : Hid (w.heap.size + 1 ≤ (wc.alloc (.cells #[.slice (some ⟨g3, 0, none⟩) (ll + 1) d3] 121)).heap.size) := by have h1 := HBw3.out.size; have h2 := HK3.out.lt; rw [World.size_alloc]; show _ ≤ _; omega
                  have HBa : Hid (Bl w (wc.alloc (.cells #[.slice (some ⟨g3, 0, none⟩) (ll + 1) d3] 121))) := HBw3.out.alloc _
                  have HKa := Lib.hid (HK3.out.alloc (.cells #[.slice (some ⟨g3, 0, none⟩) (ll + 1) d3] 121))
                  have HTa : Hid (KeepT 138 wc (wc.alloc (.cells #[.slice (some ⟨g3, 0, none⟩) (ll + 1) d3] 121))) := (KeepT.refl _ _).alloc _
                  obtain ⟨gw, ow, cw, cuw, hvw, _⟩ := HW3.out
                  cases hvw
                  go_wp2_with (first
                    | (at_lookup; first | (refine wpList_look rfl (.tmp 49) (.tmp 50) rfl HMx.out (yp, yd) HXm2.out HXs2.out rfl rfl ?_; rw [HTx.out]) | (refine wpList_look rfl (.tmp 56) (.tmp 57) rfl HMx.out (yp, yd) HXm2.out HXs2.out rfl rfl ?_; rw [HTx.out]) | (refine wpList_look rfl (.tmp 63) (.tmp 64) rfl HMx.out (yp, yd) HXm2.out HXs2.out rfl rfl ?_; rw [HTx.out]))
                    | (at_builtin; (refine wpList_append_win _ rfl (.tmp 68) (.tmp 70) 139 rfl (w.heap.size + 1) 121 j0 (.slice none 0 0) 24 Try.underlying139 gi gz0 gz1 gz2 rfl _ cs rfl HWa.out ⟨wc.heap.size, 0, none⟩ 1 (.slice (some ⟨g3, 0, none⟩) (ll + 1) d3) rfl HCe.out rfl (by have := HQl.out; simp only [maxLen]; omega) (by have := HQl.out; omega) HSz.out ?_; intro v7 w7 hw7 hg7; have HW7 := Lib.hid hw7; have HB7 := Lib.hid (HBa.out.grown hg7 (fun k hk => by have := (HWa.out.lt k hk).1; omega)); have HT7 := Lib.hid (HTa.out.trans (KeepT.win HWa.out hg7 (by decide))); have HK7 := Lib.hid (HKa.out.grown hg7 (fun e => HWa.out.apart HKa.out (by decide) e.symm)); obtain ⟨g7, o7, c7, cs7, he7, _⟩ := hw7; subst he7; clear hg7)))
                  have HQn2 : Hid (QRow w7 (cs ++ [Value.slice (some ⟨g3, 0, none⟩) (ll + 1) d3]) (Q ++ [l ++ [(yp, yd)]])) := (HQ3.out.keep HT7.out).snoc (by simp [HLl.out]) HD3.out (HR3.out.keep HT7.out) (by simp)
                  have HW8 : Hid (Win w7 (w.heap.size + 1) 121 (.slice (some ⟨g7, o7, none⟩) (cs.length + 1) c7) (cs ++ [Value.slice (some ⟨g3, 0, none⟩) (ll + 1) d3])) := by have h := HW7.out; rw [List.length_append] at h; exact h
                  go_roundg g
                  case measure => omega
                  case rel => exact ⟨Q ++ [l ++ [(yp, yd)]], cs ++ [Value.slice (some (⟨g3, 0, none⟩ : Addr)) (ll + 1) d3], _, _, _, z2, j + 1, by omega, rfl, by rw [← HOr.out], by go_num, HZ2.out, HF2.out, HX.out, HW8.out, HQn2.out, HGn.out, HNew.out, HLn2.out, HB7.out, HKt3.out.trans HT7.out, HK7.out⟩
end Go.Proofs.Ytbncgjccmadkbaa
