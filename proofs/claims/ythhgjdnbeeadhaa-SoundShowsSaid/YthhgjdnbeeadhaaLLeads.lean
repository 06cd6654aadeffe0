/- left.Leads: steps that are a way are told to be one. -/
import Derived.Test.YthhgjdnbeeadhaaLSteps
import Derived.Test.YthhgjdnbeeadhaaLQue
import Derived.Test.YthhgjdnbeeadhaaLAll
import Derived.Test.YthhgjdnbeeadhaaSdShows
namespace Go.Proofs.Ythhgjdnbeeadhaa
open Go.RowKit

/-- A look-up of a step that is there. -/
theorem wpList_look_yes {w : World} {b : Nat} {ps : List Gr.Pr} {nl : Nat → Bool} {ops : Array Oper} {rest : List Oper} {o : Oper} {a : Act} {Q : Exit → Act → World → Prop} (hg : o.guard = none) (m x : Operand) (hop : o.op = Op.lookup 54 m x true)
    (h : ToMap w b ps nl) (y : Lf.Stp) (hy : Small y) (hs : Lf.isStep ps nl y = true) (hm : a.eval m = .map (some b)) (hx : a.eval x = .agg #[.int .i64 (y.1 : Int), .int .i64 (y.2 : Int)])
    (hK : wpList Try.prog ops Q rest (a.put o.dst (.tuple #[.int .i64 (Lf.to ps y : Int), .bool true])) w) : wpList Try.prog ops Q (o :: rest) a w :=
  wpList_look_ok hg m x hop h y hy hm hx fun c hc => by
    rw [hc hs, hs]
    exact hK

set_option maxRecDepth 100000 in
set_option maxHeartbeats 4000000 in
theorem leads_law : LeadsC := by
  intro t n s A len c ps a b Al ll cl l w B hlen hmax hr hB hok hll hl100 hpos hrl hway
  have HL := Lib.hid hlen; clear hlen
  have HP : Hid (∀ w', Bl w w' → Prs w' w'.heap.size A ps) := fun _ hb => (hr.prs.bl hB hb).more (Nat.le_trans hB hb.size)
  have HRl : Hid (∀ w', Bl w w' → Rd w' w'.heap.size Al (stRow l)) := fun _ hb => (hrl.bl hB hb).more (Nat.le_trans hB hb.size)
  clear hr hB hrl
  have HOK := Lib.hid hok
  obtain ⟨n1, n2, n3⟩ := ok_nons hok
  have h8 : ∀ p ∈ ps, p.right.length ≤ 8 := fun p hp => by
    obtain ⟨j, hj, rfl⟩ := List.mem_iff_getElem.1 hp
    exact (ok_syms hok hj).2.1
  have HAt : Hid (∀ x, Lf.isStep ps (Fi.nulls ⟨t, n, s, ps⟩) x = true → Small x ∧ ∃ h : x.1 < ps.length, ps[x.1].left = (Lf.frm ps x : Int)) := fun x hx => by
    refine ⟨small_step n3 h8 hx, ?_⟩
    obtain ⟨p, sy, h1, _, _, _, h5, _⟩ := Lf.step_some hx
    obtain ⟨h2, h3⟩ := List.getElem?_eq_some_iff.1 h1
    refine ⟨h2, ?_⟩
    rw [h3, h5]
    have := (ok_syms hok h2).1.1
    rw [h3] at this
    omega
  have HSt := Lib.hid (Lf.way_steps hway)
  have HFr := Lib.hid (Lf.way_frm hway)
  have HFi := Lib.hid (Lf.way_fin hway)
  have HLl := Lib.hid hll
  clear hok n1 n2 n3 h8 hway hll
  have HB0 : Hid (Bl w (w.alloc (.cells #[.int .i64 t, .int .i64 n, .int .i64 s, .slice A len c] 24))) := (Bl.refl w).alloc _
  have HK0 := Lib.hid (Bk.new w 24 #[.int .i64 t, .int .i64 n, .int .i64 s, .slice A len c])
  go_enter Try.func13, Try.ntmps13
  go_wp2_with fail
  refine (right_any t n s A len c ps _ _ HL.out hmax (HP.out _ HB0.out) (Nat.le_refl _)).mono ?_
  rintro e w1 ⟨rfl, hb1⟩
  rw [HOK.out]
  have HB1 := Lib.hid (HB0.out.trans hb1)
  have HK1 := Lib.hid (HK0.out.bl hb1)
  clear hb1 HB0 HK0
  have k0 : w1.cell? ⟨w.heap.size, 0, none⟩ = some (.int .i64 t) := HK1.out.cell 0
  have k1 : w1.cell? ⟨w.heap.size, 1, none⟩ = some (.int .i64 n) := HK1.out.cell 1
  have k2 : w1.cell? ⟨w.heap.size, 2, none⟩ = some (.int .i64 s) := HK1.out.cell 2
  have k3 : w1.cell? ⟨w.heap.size, 3, none⟩ = some (.slice A len c) := HK1.out.cell 3
  have klt : w.heap.size < w1.heap.size := HK1.out.lt
  go_wp2_with fail
  refine (steps_any t n s A len c ps _ _ HL.out (HP.out _ HB1.out) (Nat.le_refl _) HOK.out).mono ?_
  rintro e w2 ⟨bm, rfl, _, hmp, hb2⟩
  have HB2 := Lib.hid (HB1.out.trans hb2)
  have HK2 := Lib.hid (HK1.out.bl hb2)
  have HM2 := Lib.hid hmp
  clear hmp hb2 HB1 HK1 k0 k1 k2 k3 klt
  generalize Fi.nulls ⟨t, n, s, ps⟩ = nl at *
  go_wp2_with fail
  go_loopw [10, 23] (fun v i wr => ∃ k : Nat, k ≤ ll ∧ v = .int .i64 (Lf.fin ps a (l.take k) : Nat) ∧ i = .int .i64 k ∧ Hid (Bl w2 wr)) (fun _ i _ => ll - (intOf i).toNat)
  case atStart => exact ⟨0, Nat.zero_le _, rfl, rfl, Bl.refl _⟩
  case round =>
    obtain ⟨k, hk, rfl, rfl, HBr⟩ := hrel
    by_cases hlt : k < ll
    · have hkl : k < l.length := by have := HLl.out; omega
      have HBx := Lib.hid (HB2.out.trans HBr.out)
      have HMr := Lib.hid (HM2.out.bl HBr.out)
      obtain ⟨b1, o1, rfl, hb1, p0, p1⟩ := (HRl.out _ HBx.out).stp hkl
      have HXs := Lib.hid (HSt.out _ (List.getElem_mem hkl))
      obtain ⟨hsm, hi, hle⟩ := HAt.out _ HXs.out
      have HXf := Lib.hid (HFr.out k hkl)
      have HXt := Lib.hid (Lf.fin_take_succ (ps := ps) (a := a) hkl)
      generalize l[k] = x at *
      obtain ⟨xp, xd⟩ := x
      simp only at p0 p1 hi hle
      obtain ⟨b2, o2, Ax, cx, rfl, hb2, -, hc0, -⟩ := (HP.out _ HBx.out).at_ hi
      rw [hle, HXf.out] at hc0
      have HXm := Lib.hid hsm
      have hx0 : (0 : Int) ≤ (xp : Int) := by omega
      have hx1 : (xp : Int) < (len : Int) := by have := HL.out; omega
      have g3 : wr.cell? ⟨w.heap.size, 3, none⟩ = some (.slice (some ⟨b2, o2, none⟩) len c) := (HK2.out.bl HBr.out).cell 3
      have glt : w.heap.size < wr.heap.size := (HK2.out.bl HBr.out).lt
      have HMa := Lib.hid (HMr.out.bl ((Bl.refl wr).alloc (.cells #[.int .i64 xp, .int .i64 xd] 57)))
      have HBa := Lib.hid (HBr.out.alloc (.cells #[.int .i64 xp, .int .i64 xd] 57))
      clear hsm hle hi
      generalize hfa : Lf.fin ps a (l.take k) = fa at *
      have HFa := Lib.hid hfa; clear hfa
      go_wp2_with (at_lookup; refine wpList_look_yes rfl (.tmp 28) (.tmp 29) rfl HMa.out (xp, xd) HXm.out HXs.out rfl rfl ?_)
      go_roundw
      case rel => exact ⟨k + 1, by omega, by rw [HXt.out], by go_num, HBa.out⟩
      case measure => simp [intOf]; omega
    · have hke : k = l.length := by have := HLl.out; omega
      have HEn : Hid (Lf.fin ps a (l.take k) = b) := by rw [hke, List.take_length]; exact HFi.out
      have HBx := Lib.hid (HB2.out.trans HBr.out)
      have hz : (0 : Int) < (ll : Int) := by omega
      clear hke
      rw [HEn.out]
      go_wp2_with fail
      go_ret
      exact ⟨rfl, HBx.out⟩
end Go.Proofs.Ythhgjdnbeeadhaa
