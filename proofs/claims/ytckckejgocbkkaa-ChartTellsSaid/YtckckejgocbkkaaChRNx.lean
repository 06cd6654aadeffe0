/- The reference's Next: what is next at items. -/
import Derived.Test.YtckckejgocbkkaaChRAdd
import Derived.Test.YtckckejgocbkkaaChD
import Derived.Test.YtckckejgocbkkaaRRankS
import Derived.Test.YtckckejgocbkkaaHTab
import Derived.Test.YtckckejgocbkkaaRow
import Derived.StillTailTactics
namespace Go.Proofs.Ytckckejgocbkkaa
open Go.RowKit

def zsR : Array Value := (bls 32 fun _ => false).toArray
theorem arr_infoR : (Try.prog.info? 68).map (fun i => (i.zero, i.size)) = some (some (.agg zsR), 32) := by kernel_rfl
theorem arr_sizeR : (Try.prog.info? 68).map (·.size) = some 32 := by kernel_rfl
theorem bls_allR (f : Nat → Bool) : (bls 32 f).toArray.all (·.oneCell') = true := all_oneCell_toArray (cs := bls 32 f) (by
  intro v hv
  unfold bls at hv
  obtain ⟨c, _, rfl⟩ := List.mem_map.1 hv
  rfl)
theorem bls_putR {w : World} {g m : Nat} {f : Nat → Bool} {x : Bool} (h : Bk w g 68 (bls 32 f).toArray) : Bk (w.setCell ⟨g, m, none⟩ (.bool x)) g 68 (bls 32 (upd f m x)).toArray := by
  have h1 := h.put m (.bool x)
  rw [List.setIfInBounds_toArray, bls_set] at h1
  exact h1
theorem bls_cellR {w : World} {g m : Nat} {f : Nat → Bool} (h : Bk w g 68 (bls 32 f).toArray) (hm : m < 32) : w.cell? ⟨g, m, none⟩ = some (.bool (f m)) := by
  rw [h.cell m, List.getElem?_toArray, bls_at f hm]
/-- Bools that are a number's bits. -/
def BitsOf (f : Nat → Bool) (z : Nat) : Prop := ∀ t, t < 32 → f t = z.testBit t
theorem bits_zero : BitsOf (fun _ => false) 0 := fun t _ => (Nat.zero_testBit t).symm
theorem bits_put {f : Nat → Bool} {z m : Nat} (h : BitsOf f z) : BitsOf (upd f m true) (z ||| 2 ^ m) := fun t ht => by
  rw [Nat.testBit_or, Nat.testBit_two_pow, ← h t ht]
  unfold upd
  by_cases e : t = m
  · subst e; simp
  · rw [if_neg e, decide_eq_false (Ne.symm e)]; simp
theorem bits_same {f : Nat → Bool} {z m : Nat} (h : BitsOf f z) : BitsOf (upd f m (f m)) z := fun t ht => by
  rw [← h t ht]
  unfold upd
  split
  · rename_i e; rw [e]
  · rfl
theorem bits_num {f : Nat → Bool} {z : Nat} (h : BitsOf f z) (hz : z < 131072) : Fi.numL ((List.range 32).map f) = z := by
  apply Nat.eq_of_testBit_eq
  intro t
  rw [Fi.numL_bit]
  rcases Nat.lt_or_ge t 32 with ht | ht
  · rw [List.getD_eq_getElem?_getD, List.getElem?_map, List.getElem?_range ht]
    exact h t ht
  · rw [List.getD_eq_getElem?_getD, List.getElem?_eq_none (by simp; exact ht)]
    have h1 : z < 2 ^ t := Nat.lt_of_lt_of_le hz (Nat.le_trans (by decide) (Nat.pow_le_pow_right (by decide) (show 17 ≤ t by omega)))
    rw [Nat.testBit_lt_two_pow h1]; rfl
theorem numL_stepR (f : Nat → Bool) {j : Nat} (h : j < 32) : Fi.numL (((List.range 32).map f).drop j) = 2 * Fi.numL (((List.range 32).map f).drop (j + 1)) + (f j).toNat := by
  have hl : j < ((List.range 32).map f).length := by rw [List.length_map, List.length_range]; exact h
  rw [List.drop_eq_getElem_cons hl, Fi.numL_cons]
  simp
theorem numL_smallR (f : Nat → Bool) {j : Nat} (h : j < 32) : Fi.numL (((List.range 32).map f).drop (j + 1)) < 2147483648 := by
  have h1 := Fi.numL_lt (((List.range 32).map f).drop (j + 1))
  rw [List.length_drop, List.length_map, List.length_range] at h1
  exact Nat.lt_of_lt_of_le h1 (Nat.le_trans (Nat.pow_le_pow_right (by decide) (show 32 - (j + 1) ≤ 31 by omega)) (by decide))

set_option maxRecDepth 100000 in
set_option maxHeartbeats 16000000 in
theorem rnext_any (t n s : Int) (A : Option Addr) (len c : Nat) (ps : List Gr.Pr) (Ai : Option Addr) (li ci : Nat) (l : List Ix) (w : World) (B : Nat) (hlen : len = ps.length) (hmax : len ≤ 9223372036854775807) (hr : Prs w B A ps) (hli : li = l.length) (hmi : li ≤ 1000000000) (hri : Rd w B Ai (ixRow l)) (hB : B ≤ w.heap.size) :
    Calls Try.prog 14 #[.agg #[.int .i64 t, .int .i64 n, .int .i64 s, .slice A len c], .slice Ai li ci] w fun e w' => e = .returned (.int .u32 (nxtN ⟨t, n, s, ps⟩ l : Nat)) ∧ Bl w w' := by
  obtain ⟨i0, hi, _⟩ := info_parts bool_info
  have hza : zsR.all (·.oneCell') = true := bls_allR _
  have hzi : (Try.prog.info? 68).map (·.size) = some zsR.size := arr_sizeR
  have HK0 : Hid (Bk ((w.alloc (.cells #[.int .i64 t, .int .i64 n, .int .i64 s, .slice A len c] 24)).alloc (.cells zsR 68)) w.heap.size 24 #[.int .i64 t, .int .i64 n, .int .i64 s, .slice A len c]) := (Bk.new w _ _).alloc _
  have HZ0 : Hid (Bk ((w.alloc (.cells #[.int .i64 t, .int .i64 n, .int .i64 s, .slice A len c] 24)).alloc (.cells zsR 68)) (w.heap.size + 1) 68 zsR) := by
    have h := Bk.new (w.alloc (.cells #[.int .i64 t, .int .i64 n, .int .i64 s, .slice A len c] 24)) 68 zsR
    rw [World.size_alloc] at h
    exact h
  have HB0 : Hid (Bl w ((w.alloc (.cells #[.int .i64 t, .int .i64 n, .int .i64 s, .slice A len c] 24)).alloc (.cells zsR 68))) := ((Bl.refl w).alloc _).alloc _
  have HRt := Lib.hid (fun (wx : World) (hb : Bl w wx) => rright_any t n s A len c ps wx B hlen hmax (hr.bl hB hb) (Nat.le_trans hB hb.size))
  have HR := Lib.hid (fun (wx : World) (hb : Bl w wx) => hr.bl hB hb)
  have HWh := Lib.hid (fun (i d : Nat) (fr : Int) (wx : World) (hb : Bl w wx) (hi : i < ps.length) => rwhole_any t n s A len c ps i d fr wx B hlen (hr.bl hB hb) (Nat.le_trans hB hb.size) hi)
  have HRi := Lib.hid (fun (wx : World) (hb : Bl w wx) => hri.bl hB hb)
  have HL := Lib.hid hlen
  have HLi := Lib.hid hli
  have hBw := Lib.hid hB
  clear hr hri hlen hli hB
  go_enter Try.func14, Try.ntmps14
  go_wp2_with (first
    | (with_reducible refine wpList_alloc_agg rfl 68 rfl zsR 32 arr_infoR ?_)
    | (with_reducible refine wpList_build_zero rfl 68 rfl zsR 32 arr_infoR 32 4 Try.underlying68 i0 hi ?_)
    | ((with_reducible refine wpList_store_bk ?hg 68 (.tmp 5) (.tmp 10) ?ho (w.heap.size + 1) 68 zsR zsR ?hx ?hy HZ0.out rfl hzi hza ?_); (case ho => with_reducible rfl); (case hg => rfl); (case hx => first | rfl | exact congrArg (fun x => Value.pointer (some ⟨x, 0, none⟩)) (World.size_alloc ..)); (case hy => rfl); intro w2 hb2 hf2))
  have HZ2 := Lib.hid hb2
  have HK2 : Hid (Bk w2 w.heap.size 24 #[.int .i64 t, .int .i64 n, .int .i64 s, .slice A len c]) := HK0.out.fr hf2 (by omega)
  have HB2 : Hid (Bl w w2) := HB0.out.fr hf2 (by intro i hi e; omega)
  clear hb2 hf2 HZ0 HK0 HB0
  go_loopw [6] (fun i wr => ∃ (k : Nat) (f : Nat → Bool), k ≤ li ∧ i = .int .i64 (k : Int) ∧ Hid (BitsOf f (nextN ⟨t, n, s, ps⟩ (l.take k))) ∧ Hid (okB ⟨t, n, s, ps⟩ = true ∨ k = 0) ∧ Hid (Bk wr (w.heap.size + 1) 68 (bls 32 f).toArray) ∧ Hid (Bk wr w.heap.size 24 #[.int .i64 t, .int .i64 n, .int .i64 s, .slice A len c]) ∧ Hid (Bl w wr)) (fun i _ => li - (intOf i).toNat)
  case atStart => exact ⟨0, _, Nat.zero_le _, rfl, bits_zero, .inr rfl, HZ2.out, HK2.out, HB2.out⟩
  case round =>
    clear HZ2 HK2 HB2
    obtain ⟨k, f, hk, rfl, HF, HO, HZ, HK, HB⟩ := hrel
    have k0 : wr.cell? ⟨w.heap.size, 0, none⟩ = some (.int .i64 t) := HK.out.cell 0
    have k1 : wr.cell? ⟨w.heap.size, 1, none⟩ = some (.int .i64 n) := HK.out.cell 1
    have k2 : wr.cell? ⟨w.heap.size, 2, none⟩ = some (.int .i64 s) := HK.out.cell 2
    have k3 : wr.cell? ⟨w.heap.size, 3, none⟩ = some (.slice A len c) := HK.out.cell 3
    have kl := HK.out.lt
    go_upto_region 3 with fail
    go_cut [18] from 11 to 18 (fun v wx => v = .bool (decide (k < li) && okB ⟨t, n, s, ps⟩) ∧ Hid (Bl wr wx))
    case first =>
      by_cases hlt : k < li
      · have hik : (k : Int) < (li : Int) := by omega
        have HD : Hid (decide (k < li) = true) := decide_eq_true hlt
        go_wp2_with fail
        refine (HRt.out wr HB.out).mono ?_
        rintro e w5 ⟨rfl, hb5⟩
        have HB5 := Lib.hid hb5
        clear hb5
        generalize hob : okB ⟨t, n, s, ps⟩ = ob at *
        clear hob
        go_wp2_with fail
        go_meet
        exact ⟨by rw [HD.out, Bool.true_and], HB5.out⟩
      · have hik : ¬ (k : Int) < (li : Int) := by omega
        have HD : Hid (decide (k < li) = false) := decide_eq_false hlt
        go_wp2_with fail
        go_meet
        exact ⟨by rw [HD.out, Bool.false_and], Bl.refl wr⟩
    case rest =>
      obtain ⟨rfl, HBc⟩ := hcut
      have HZc := Lib.hid (HZ.out.bl HBc.out)
      have HKc := Lib.hid (HK.out.bl HBc.out)
      have HBw := Lib.hid (HB.out.trans HBc.out)
      clear k0 k1 k2 k3 kl HZ HK HB HBc
      cases hg : (decide (k < li) && okB ⟨t, n, s, ps⟩) with
      | false =>
        have HQ : Hid (nxtN ⟨t, n, s, ps⟩ l = nextN ⟨t, n, s, ps⟩ (l.take k)) := by
          show _ = _
          unfold nxtN
          rcases HO.out with h1 | h1
          · rw [if_pos h1]
            rw [h1, Bool.and_true, decide_eq_false_iff_not] at hg
            rw [List.take_of_length_le (by have := HLi.out; omega)]
          · subst h1
            split
            · rename_i h2
              rw [h2, Bool.and_true, decide_eq_false_iff_not] at hg
              rw [List.take_of_length_le (by have := HLi.out; omega)]
            · rfl
        have HNm : Hid (nxtN ⟨t, n, s, ps⟩ l = Fi.numL ((List.range 32).map f)) := by
          have h1 := nxtN_lt ⟨t, n, s, ps⟩ l
          have h2 := HF.out
          rw [← HQ.out] at h2
          exact (bits_num h2 h1).symm
        clear hg HF HQ HO
        go_wp2_with fail
        go_loopw [8, 9] (fun v i wr => ∃ (k : Nat) (m : Int) (z : Nat), k ≤ 32 ∧ m = (k : Int) - 1 ∧ i = .int .i64 m ∧ v = .int .u32 (z : Int) ∧ wr = wc ∧ Hid (z = Fi.numL (((List.range 32).map f).drop k))) (fun _ i _ => (intOf i + 1).toNat)
        case atStart => exact ⟨32, 31, 0, Nat.le_refl _, rfl, rfl, rfl, rfl, by
          show 0 = _
          rw [List.drop_of_length_le (by rw [List.length_map, List.length_range]; exact Nat.le_refl _)]; rfl⟩
        case round =>
          obtain ⟨j, m, z, hj, hm, rfl, rfl, rfl, HN⟩ := hrel
          cases j with
          | zero =>
            have hm1 : m = -1 := by omega
            subst hm1
            clear hm
            go_wp2_with fail
            go_ret
            exact ⟨by rw [HNm.out, HN.out]; rfl, HBw.out⟩
          | succ j =>
            have hmj : m = (j : Int) := by omega
            subst hmj
            clear hm
            have hj2 : j < 32 := by omega
            have hc := bls_cellR HZc.out hj2
            have hs := numL_stepR f hj2
            have hz : z < 2147483648 := by rw [HN.out]; exact numL_smallR f hj2
            rw [← HN.out] at hs
            have hj0 : (0 : Int) ≤ (j : Int) := by omega
            have hj1 : (j : Int) < 32 := by omega
            cases hb : f j with
            | true =>
              rw [hb] at hc hs
              have HS := Lib.hid hs
              clear hs hb
              go_wp2_with fail
              go_roundw
              case rel => exact ⟨j, (j : Int) - 1, 2 * z + 1, by omega, rfl, by go_num, by go_num, trivial, HS.out.symm⟩
              case measure => simp [intOf]
            | false =>
              rw [hb] at hc hs
              have HS := Lib.hid hs
              clear hs hb
              go_wp2_with fail
              go_roundw
              case rel => exact ⟨j, (j : Int) - 1, 2 * z, by omega, rfl, by go_num, by go_num, trivial, HS.out.symm⟩
              case measure => simp [intOf]
      | true =>
        have hok : okB ⟨t, n, s, ps⟩ = true := by
          cases h : okB ⟨t, n, s, ps⟩ with
          | true => rfl
          | false => rw [h, Bool.and_false] at hg; cases hg
        have hlt : k < li := by
          rcases Nat.lt_or_ge k li with h | h
          · exact h
          · rw [decide_eq_false (by omega), Bool.false_and] at hg; cases hg
        have HOk := Lib.hid hok
        have hlt2 : k < l.length := by have := HLi.out; omega
        have hik : (k : Int) < (li : Int) := by omega
        have hk0 : (0 : Int) ≤ (k : Int) := by omega
        obtain ⟨b, off, rfl, hbb, c0, c1, c2⟩ := (HRi.out wc HBw.out).ix hlt2
        have hbl : b < wc.heap.size := Nat.lt_of_lt_of_le hbb (Nat.le_trans hBw.out HBw.out.size)
        have HSn : Hid (nextN ⟨t, n, s, ps⟩ (l.take (k + 1)) = nextN ⟨t, n, s, ps⟩ (l.take k) ||| bitN ⟨t, n, s, ps⟩ l[k]) := by
          show _ = _
          rw [take_snoc hlt2, nextN_snoc]
        generalize l[k] = x at *
        clear hg hok hlt2 HO
        generalize hz1 : nextN ⟨t, n, s, ps⟩ (l.take k) = z at *
        generalize hz2 : nextN ⟨t, n, s, ps⟩ (l.take (k + 1)) = z' at *
        have HZ2 := Lib.hid hz2
        clear hz1 hz2
        obtain ⟨xp, xd, xf⟩ := x
        simp only at c0 c1 c2
        have HX4 := Lib.hid (Bk.new wc 42 #[.int .i64 xp, .int .i64 xd, .int .i64 xf])
        have HB4 : Hid (Bl wc (wc.alloc (.cells #[.int .i64 xp, .int .i64 xd, .int .i64 xf] 42))) := (Bl.refl wc).alloc _
        go_upto_region 6 with fail
        generalize wc.alloc (.cells #[.int .i64 xp, .int .i64 xd, .int .i64 xf] 42) = w4 at *
        generalize wc.heap.size = xb at *
        have HK4 := Lib.hid (HKc.out.bl HB4.out)
        have HZ4 := Lib.hid (HZc.out.bl HB4.out)
        have HBw4 := Lib.hid (HBw.out.trans HB4.out)
        clear HKc HZc HBw HB4 c0 c1 c2 hbl hbb
        have k3 : w4.cell? ⟨w.heap.size, 3, none⟩ = some (.slice A len c) := HK4.out.cell 3
        have x0 : w4.cell? ⟨xb, 0, none⟩ = some (.int .i64 xp) := HX4.out.cell 0
        have x1 : w4.cell? ⟨xb, 1, none⟩ = some (.int .i64 xd) := HX4.out.cell 1
        have x2 : w4.cell? ⟨xb, 2, none⟩ = some (.int .i64 xf) := HX4.out.cell 2
        go_cut [53] from 25 to 53 (fun v wx => v = .bool (!mayIx ps ⟨xp, xd, xf⟩) ∧ Hid (Bl w4 wx))
        case first =>
          have key : xp < 0 ∨ (0 ≤ xp ∧ (len : Int) ≤ xp) ∨ (0 ≤ xp ∧ xp < (len : Int) ∧ xd < 0) ∨ (0 ≤ xp ∧ xp < (len : Int) ∧ 0 ≤ xd) := by omega
          rcases key with h1 | ⟨h1, h2⟩ | ⟨h1, h2, h3⟩ | ⟨h1, h2, h3⟩
          · have HQ : Hid (mayIx ps ⟨xp, xd, xf⟩ = false) := by
              show _ = _
              unfold mayIx; rw [decide_eq_false (by simp only; omega)]; rfl
            have d1 : decide (xp < 0) = true := decide_eq_true h1
            go_big_quiet (fail)
            go_wp2_with fail
            go_meet
            exact ⟨by rw [HQ.out]; rfl, (Bl.refl w4).drewN _⟩
          · have HQ : Hid (mayIx ps ⟨xp, xd, xf⟩ = false) := by
              show _ = _
              unfold mayIx; rw [decide_eq_false (by simp only; have := HL.out; omega)]; rfl
            have d1 : decide (xp < 0) = false := decide_eq_false (by omega)
            have d2 : decide ((len : Int) ≤ xp) = true := decide_eq_true h2
            go_big_quiet (fail)
            go_wp2_with fail
            go_meet
            exact ⟨by rw [HQ.out]; rfl, (Bl.refl w4).drewN _⟩
          · have HQ : Hid (mayIx ps ⟨xp, xd, xf⟩ = false) := by
              show _ = _
              unfold mayIx; rw [decide_eq_false (by simp only; omega)]; rfl
            have d1 : decide (xp < 0) = false := decide_eq_false (by omega)
            have d2 : decide ((len : Int) ≤ xp) = false := decide_eq_false (by omega)
            have d3 : decide (xd < 0) = true := decide_eq_true h3
            go_big_quiet (fail)
            go_wp2_with fail
            go_meet
            exact ⟨by rw [HQ.out]; rfl, (Bl.refl w4).drewN _⟩
          · obtain ⟨i, rfl⟩ : ∃ i : Nat, xp = (i : Int) := ⟨xp.toNat, by omega⟩
            have hi9 : i < ps.length := by have := HL.out; omega
            obtain ⟨bp, op, Ax, cx, rfl, hbp, hrx, q0, q1⟩ := (HR.out w4 HBw4.out).at_ hi9
            have HM : Hid (mayIx ps ⟨(i : Int), xd, xf⟩ = decide (xd ≤ (ps[i].right.length : Int))) := by
              show _ = _
              unfold mayIx
              rw [decide_eq_true (by simp only; omega), Bool.true_and]
              simp only [Int.toNat_natCast, List.getElem?_eq_getElem hi9]
            have HD : Hid (decide ((ps[i].right.length : Int) < xd) = !decide (xd ≤ (ps[i].right.length : Int))) := by
              show _ = _
              by_cases e : xd ≤ (ps[i].right.length : Int)
              · rw [decide_eq_true e, decide_eq_false (by omega)]; rfl
              · rw [decide_eq_false e, decide_eq_true (by omega)]; rfl
            have d1 : decide ((i : Int) < 0) = false := decide_eq_false (by omega)
            have d2 : decide ((len : Int) ≤ (i : Int)) = false := decide_eq_false (by omega)
            have d2n : decide (len ≤ i) = false := decide_eq_false (by omega)
            have d3 : decide (xd < 0) = false := decide_eq_false (by omega)
            clear q0 hrx
            generalize ps[i].right.length = rl at *
            go_big_quiet (fail)
            go_wp2_with fail
            go_meet
            exact ⟨by rw [HM.out, ← HD.out], (Bl.refl w4).drewN _⟩
        case rest =>
          obtain ⟨rfl, HBd⟩ := hcut
          have HKd := Lib.hid (HK4.out.bl HBd.out)
          have HZd := Lib.hid (HZ4.out.bl HBd.out)
          have HXd := Lib.hid (HX4.out.bl HBd.out)
          have HBwd := Lib.hid (HBw4.out.trans HBd.out)
          clear k3 x0 x1 x2 HK4 HZ4 HX4 HBw4 HBd
          cases hm : mayIx ps ⟨xp, xd, xf⟩ with
          | false =>
            have HE : Hid (z' = z) := by show _ = _; rw [HSn.out, bitN_no hm, Nat.or_zero]
            clear hm
            go_wp2_with fail
            go_roundw
            case rel => exact ⟨k + 1, f, by omega, by go_num, by rw [HZ2.out, HE.out]; exact HF.out, .inl HOk.out, HZd.out, HKd.out, HBwd.out⟩
            case measure => simp [intOf]; omega
          | true =>
            obtain ⟨i, d, p, h1, h2, h3, h4⟩ := mayIx_iff.1 hm
            simp only at h1 h2
            subst h1 h2
            have hi9 := Ch.lt_of_get h3
            obtain rfl : ps[i] = p := by rw [List.getElem?_eq_getElem hi9] at h3; injection h3
            have k0 : wc.cell? ⟨w.heap.size, 0, none⟩ = some (.int .i64 t) := HKd.out.cell 0
            have k1 : wc.cell? ⟨w.heap.size, 1, none⟩ = some (.int .i64 n) := HKd.out.cell 1
            have k2 : wc.cell? ⟨w.heap.size, 2, none⟩ = some (.int .i64 s) := HKd.out.cell 2
            have k3 : wc.cell? ⟨w.heap.size, 3, none⟩ = some (.slice A len c) := HKd.out.cell 3
            have x0 : wc.cell? ⟨xb, 0, none⟩ = some (.int .i64 (i : Int)) := HXd.out.cell 0
            have x1 : wc.cell? ⟨xb, 1, none⟩ = some (.int .i64 (d : Int)) := HXd.out.cell 1
            have x2 : wc.cell? ⟨xb, 2, none⟩ = some (.int .i64 xf) := HXd.out.cell 2
            have kl := HKd.out.lt
            have xl := HXd.out.lt
            clear hm
            have HWq := Lib.hid (HWh.out i d xf wc HBwd.out hi9)
            have HRow := Lib.hid (fun (wx : World) (hb : Bl w wx) => (HR.out wx hb).at_ hi9)
            have HOki := Lib.hid (((okB_iff _).1 HOk.out).2.2.2.2.2.2.2 _ (List.getElem_mem hi9))
            have ht16 := ((okB_iff _).1 HOk.out).2.1
            simp only at ht16
            have i1 : (0 : Int) ≤ (i : Int) := by omega
            have i2 : (i : Int) < (len : Int) := by have := HL.out; omega
            by_cases hw : d = ps[i].right.length
            · have HBn : Hid (bitN ⟨t, n, s, ps⟩ ⟨(i : Int), (d : Int), xf⟩ = if ps[i].left = s ∧ xf = 0 then 65536 else 0) := by show _ = _; rw [hw]; exact bitN_none h3
              rw [decide_eq_true hw] at HWq
              clear hw h3 h4
              generalize ps[i].left = pl at *
              have HNew : Hid (∀ v, v = (f 16 || decide (pl = s ∧ xf = 0)) → BitsOf (upd f 16 v) z') := fun v hv => by
                rw [HSn.out, HBn.out]
                by_cases hc : pl = s ∧ xf = 0
                · rw [decide_eq_true hc, Bool.or_true] at hv
                  rw [if_pos hc, hv]
                  exact bits_put HF.out
                · rw [decide_eq_false hc, Bool.or_false] at hv
                  rw [if_neg hc, hv, Nat.or_zero]
                  exact bits_same HF.out
              clear HBn HSn
              go_wp2_with fail
              refine HWq.out.mono ?_
              rintro e w5 ⟨rfl, hb5⟩
              have HK5 : Hid (Bk w5.drew w.heap.size 24 #[.int .i64 t, .int .i64 n, .int .i64 s, .slice A len c]) := HKd.out.bl hb5.drew
              have HZ5 : Hid (Bk w5.drew (w.heap.size + 1) 68 (bls 32 f).toArray) := HZd.out.bl hb5.drew
              have HX5 : Hid (Bk w5.drew xb 42 #[.int .i64 (i : Int), .int .i64 (d : Int), .int .i64 xf]) := HXd.out.bl hb5.drew
              have HBw5 : Hid (Bl w w5.drew) := HBwd.out.trans hb5.drew
              clear hb5 k0 k1 k2 k3 x0 x1 x2 kl xl HKd HZd HXd HBwd HWq
              obtain ⟨bp, op, Ax, cx, rfl, hbp, hrx, q0d, q1⟩ := HRow.out w5.drew HBw5.out
              have q0 : w5.cell? ⟨bp, op + i * 2, none⟩ = some (.int .i64 pl) := q0d
              have k2 : w5.cell? ⟨w.heap.size, 2, none⟩ = some (.int .i64 s) := HK5.out.cell 2
              have k3 : w5.cell? ⟨w.heap.size, 3, none⟩ = some (.slice (some ⟨bp, op, none⟩) len c) := HK5.out.cell 3
              have x0 : w5.cell? ⟨xb, 0, none⟩ = some (.int .i64 (i : Int)) := HX5.out.cell 0
              have x2 : w5.cell? ⟨xb, 2, none⟩ = some (.int .i64 xf) := HX5.out.cell 2
              have zc : w5.cell? ⟨w.heap.size + 1, 16, none⟩ = some (.bool (f 16)) := bls_cellR HZ5.out (by decide)
              have zcd : w5.drew.cell? ⟨w.heap.size + 1, 16, none⟩ = some (.bool (f 16)) := bls_cellR HZ5.out (by decide)
              have zf : w5.drew.frozen? ⟨w.heap.size + 1, 16, none⟩ = false := HZ5.out.free 16
              have zl : w.heap.size + 1 < w5.drew.heap.size := HZ5.out.lt
              have HZn := Lib.hid (fun (v : Bool) => bls_putR (m := 16) (x := v) HZ5.out)
              have HKn := Lib.hid (fun (v : Value) => HK5.out.far (p := ⟨w.heap.size + 1, 16, none⟩) (Nat.ne_of_lt (Nat.lt_succ_self _)) v)
              have HBn := Lib.hid (fun (v : Value) => Bl.fr HBw5.out ((Fr.refl (fun k => k = w.heap.size + 1) w5.drew).own 16 v) (fun i hi e => by omega))
              have hbp9 : bp ≠ w.heap.size + 1 := by have := hBw.out; omega
              have hxb9 : xb ≠ w.heap.size + 1 := HX5.out.apart HZ5.out (by decide)
              have HSd : Hid (w5.drew.cell? ⟨w.heap.size, 2, none⟩ = some (.int .i64 s) ∧ w5.drew.cell? ⟨w.heap.size, 3, none⟩ = some (.slice (some ⟨bp, op, none⟩) len c) ∧ w5.drew.cell? ⟨xb, 0, none⟩ = some (.int .i64 (i : Int)) ∧ w5.drew.cell? ⟨xb, 2, none⟩ = some (.int .i64 xf) ∧ w5.drew.cell? ⟨bp, op + i * 2, none⟩ = some (.int .i64 pl)) := ⟨k2, k3, x0, x2, q0⟩
              have HSs : Hid (∀ v : Bool, (w5.drew.setCell ⟨w.heap.size + 1, 16, none⟩ (.bool v)).cell? ⟨w.heap.size, 2, none⟩ = some (.int .i64 s) ∧ (w5.drew.setCell ⟨w.heap.size + 1, 16, none⟩ (.bool v)).cell? ⟨w.heap.size, 3, none⟩ = some (.slice (some ⟨bp, op, none⟩) len c) ∧ (w5.drew.setCell ⟨w.heap.size + 1, 16, none⟩ (.bool v)).cell? ⟨xb, 0, none⟩ = some (.int .i64 (i : Int)) ∧ (w5.drew.setCell ⟨w.heap.size + 1, 16, none⟩ (.bool v)).cell? ⟨xb, 2, none⟩ = some (.int .i64 xf) ∧ (w5.drew.setCell ⟨w.heap.size + 1, 16, none⟩ (.bool v)).cell? ⟨bp, op + i * 2, none⟩ = some (.int .i64 pl)) := fun v => by
                have h1 := HK5.out.far (p := ⟨w.heap.size + 1, 16, none⟩) (Nat.ne_of_lt (Nat.lt_succ_self _)) (.bool v)
                have h2 := HX5.out.far (p := ⟨w.heap.size + 1, 16, none⟩) hxb9 (.bool v)
                exact ⟨h1.cell 2, h1.cell 3, h2.cell 0, h2.cell 2, (World.cell?_setCell_far _ _ _ _ (Ne.symm hbp9)).trans q0⟩
              clear q1 hrx HK5 HZ5 HX5 HBw5 hbp q0d hbp9 hxb9
              go_upto_region 8 with fail
              cases hb : f 16 with
              | true =>
                have HV := Lib.hid (HNew.out true (by rw [hb, Bool.true_or]))
                rw [hb] at zc zcd
                refine wp_region_held_drew (S := (fun wx => wx.cell? ⟨w.heap.size, 2, none⟩ = some (.int .i64 s) ∧ wx.cell? ⟨w.heap.size, 3, none⟩ = some (.slice (some ⟨bp, op, none⟩) len c) ∧ wx.cell? ⟨xb, 0, none⟩ = some (.int .i64 (i : Int)) ∧ wx.cell? ⟨xb, 2, none⟩ = some (.int .i64 xf) ∧ wx.cell? ⟨bp, op + i * 2, none⟩ = some (.int .i64 pl))) (by kernel_rfl) HSd.out (fun hHeld => ?_)
                refine wpAnyH_take (i := 0) (oi := ({ dst := some 57, op := Op.indexAddr 68 (Operand.tmp 5) (Operand.const (Value.int IntKind.i64 16)), type := 0, pos := "ref.go:100", after := #[], guard := none } : Oper)) (v := ?_) rfl (by kernel_rfl) (by kernel_rfl) (by kernel_rfl) (fun _ _ _ h => h) (Or.inl ⟨by rfl, ?_⟩) hHeld ?_
                rotate_left
                · (intro w hSw; (try dsimp only at hSw); go_simp) <;> with_reducible rfl
                try simp only [Act.put, List.setIfInBounds_toArray, List.set_cons_zero, List.set_cons_succ]
                refine wpAnyH_ready (rs := [1]) (by kernel_rfl) (by simp) ?_
                refine AllReadyH.cons (o := ({ dst := some 58, op := Op.load 4 (Operand.tmp 57), type := 4, pos := "ref.go:100", after := #[{ on := 0, ground := Ground.data }], guard := none } : Oper)) rfl (fun K hK => ?_) (AllReadyH.nil)
                go_simp
                refine hK.out _ _ HSd.out (fun hHeld => ?_)
                clear hK K
                try simp only [Act.put, List.setIfInBounds_toArray, List.set_cons_zero, List.set_cons_succ]
                refine wpAnyH_take (i := 2) (oi := ({ dst := some 59, op := Op.move (Operand.tmp 58), type := 4, pos := "ref.go:100", after := #[{ on := 1, ground := Ground.data }], guard := none } : Oper)) (v := ?_) rfl (by kernel_rfl) (by kernel_rfl) (by kernel_rfl) (fun _ _ _ h => h) (Or.inl ⟨by rfl, ?_⟩) hHeld ?_
                rotate_left
                · (intro w hSw; (try dsimp only at hSw); go_simp) <;> with_reducible rfl
                try simp only [Act.put, List.setIfInBounds_toArray, List.set_cons_zero, List.set_cons_succ]
                refine wpAnyH_take (i := 3) (oi := ({ dst := some 60, op := Op.fieldAddr 24 (Operand.tmp 2) 3, type := 0, pos := "ref.go:100", after := #[{ on := 2, ground := Ground.guard }], guard := some (2, false) } : Oper)) (v := undef) rfl (by kernel_rfl) (by kernel_rfl) (by kernel_rfl) (fun _ _ _ h => h) (Or.inr ⟨by rfl, rfl⟩) hHeld ?_
                try simp only [Act.put, List.setIfInBounds_toArray, List.set_cons_zero, List.set_cons_succ]
                refine wpAnyH_take (i := 4) (oi := ({ dst := some 61, op := Op.load 22 (Operand.tmp 60), type := 22, pos := "ref.go:100", after := #[{ on := 3, ground := Ground.data }, { on := 2, ground := Ground.guard }], guard := some (2, false) } : Oper)) (v := undef) rfl (by kernel_rfl) (by kernel_rfl) (by kernel_rfl) (fun _ _ _ h => h) (Or.inr ⟨by rfl, rfl⟩) hHeld ?_
                try simp only [Act.put, List.setIfInBounds_toArray, List.set_cons_zero, List.set_cons_succ]
                refine wpAnyH_take (i := 5) (oi := ({ dst := some 62, op := Op.fieldAddr 42 (Operand.tmp 7) 0, type := 0, pos := "ref.go:100", after := #[{ on := 2, ground := Ground.guard }], guard := some (2, false) } : Oper)) (v := undef) rfl (by kernel_rfl) (by kernel_rfl) (by kernel_rfl) (fun _ _ _ h => h) (Or.inr ⟨by rfl, rfl⟩) hHeld ?_
                try simp only [Act.put, List.setIfInBounds_toArray, List.set_cons_zero, List.set_cons_succ]
                refine wpAnyH_take (i := 6) (oi := ({ dst := some 63, op := Op.load 3 (Operand.tmp 62), type := 3, pos := "ref.go:100", after := #[{ on := 5, ground := Ground.data }, { on := 2, ground := Ground.guard }], guard := some (2, false) } : Oper)) (v := undef) rfl (by kernel_rfl) (by kernel_rfl) (by kernel_rfl) (fun _ _ _ h => h) (Or.inr ⟨by rfl, rfl⟩) hHeld ?_
                try simp only [Act.put, List.setIfInBounds_toArray, List.set_cons_zero, List.set_cons_succ]
                refine wpAnyH_take (i := 7) (oi := ({ dst := some 64, op := Op.indexAddr 22 (Operand.tmp 61) (Operand.tmp 63), type := 0, pos := "ref.go:100", after := #[{ on := 4, ground := Ground.data }, { on := 6, ground := Ground.data }, { on := 2, ground := Ground.guard }], guard := some (2, false) } : Oper)) (v := undef) rfl (by kernel_rfl) (by kernel_rfl) (by kernel_rfl) (fun _ _ _ h => h) (Or.inr ⟨by rfl, rfl⟩) hHeld ?_
                try simp only [Act.put, List.setIfInBounds_toArray, List.set_cons_zero, List.set_cons_succ]
                refine wpAnyH_take (i := 8) (oi := ({ dst := some 65, op := Op.fieldAddr 45 (Operand.tmp 64) 0, type := 0, pos := "ref.go:100", after := #[{ on := 7, ground := Ground.data }, { on := 2, ground := Ground.guard }], guard := some (2, false) } : Oper)) (v := undef) rfl (by kernel_rfl) (by kernel_rfl) (by kernel_rfl) (fun _ _ _ h => h) (Or.inr ⟨by rfl, rfl⟩) hHeld ?_
                try simp only [Act.put, List.setIfInBounds_toArray, List.set_cons_zero, List.set_cons_succ]
                refine wpAnyH_take (i := 9) (oi := ({ dst := some 66, op := Op.load 3 (Operand.tmp 65), type := 3, pos := "ref.go:100", after := #[{ on := 8, ground := Ground.data }, { on := 2, ground := Ground.guard }], guard := some (2, false) } : Oper)) (v := undef) rfl (by kernel_rfl) (by kernel_rfl) (by kernel_rfl) (fun _ _ _ h => h) (Or.inr ⟨by rfl, rfl⟩) hHeld ?_
                try simp only [Act.put, List.setIfInBounds_toArray, List.set_cons_zero, List.set_cons_succ]
                refine wpAnyH_take (i := 10) (oi := ({ dst := some 67, op := Op.fieldAddr 24 (Operand.tmp 2) 2, type := 0, pos := "ref.go:100", after := #[{ on := 2, ground := Ground.guard }], guard := some (2, false) } : Oper)) (v := undef) rfl (by kernel_rfl) (by kernel_rfl) (by kernel_rfl) (fun _ _ _ h => h) (Or.inr ⟨by rfl, rfl⟩) hHeld ?_
                try simp only [Act.put, List.setIfInBounds_toArray, List.set_cons_zero, List.set_cons_succ]
                refine wpAnyH_take (i := 11) (oi := ({ dst := some 68, op := Op.load 3 (Operand.tmp 67), type := 3, pos := "ref.go:100", after := #[{ on := 10, ground := Ground.data }, { on := 2, ground := Ground.guard }], guard := some (2, false) } : Oper)) (v := undef) rfl (by kernel_rfl) (by kernel_rfl) (by kernel_rfl) (fun _ _ _ h => h) (Or.inr ⟨by rfl, rfl⟩) hHeld ?_
                try simp only [Act.put, List.setIfInBounds_toArray, List.set_cons_zero, List.set_cons_succ]
                refine wpAnyH_take (i := 12) (oi := ({ dst := some 69, op := Op.binOp BinOp.eql 3 (Operand.tmp 66) (Operand.tmp 68) 3, type := 4, pos := "ref.go:100", after := #[{ on := 9, ground := Ground.data }, { on := 11, ground := Ground.data }, { on := 2, ground := Ground.guard }], guard := some (2, false) } : Oper)) (v := undef) rfl (by kernel_rfl) (by kernel_rfl) (by kernel_rfl) (fun _ _ _ h => h) (Or.inr ⟨by rfl, rfl⟩) hHeld ?_
                try simp only [Act.put, List.setIfInBounds_toArray, List.set_cons_zero, List.set_cons_succ]
                refine wpAnyH_take (i := 13) (oi := ({ dst := some 70, op := Op.move (Operand.tmp 69), type := 4, pos := "ref.go:100", after := #[{ on := 12, ground := Ground.data }, { on := 2, ground := Ground.chain }, { on := 2, ground := Ground.guard }], guard := some (2, false) } : Oper)) (v := undef) rfl (by kernel_rfl) (by kernel_rfl) (by kernel_rfl) (fun _ _ _ h => h) (Or.inr ⟨by rfl, rfl⟩) hHeld ?_
                try simp only [Act.put, List.setIfInBounds_toArray, List.set_cons_zero, List.set_cons_succ]
                refine wpAnyH_take (i := 14) (oi := ({ dst := some 71, op := Op.fieldAddr 42 (Operand.tmp 7) 2, type := 0, pos := "ref.go:100", after := #[{ on := 13, ground := Ground.guard }], guard := some (13, true) } : Oper)) (v := undef) rfl (by kernel_rfl) (by kernel_rfl) (by kernel_rfl) (fun _ _ _ h => h) (Or.inr ⟨by rfl, rfl⟩) hHeld ?_
                try simp only [Act.put, List.setIfInBounds_toArray, List.set_cons_zero, List.set_cons_succ]
                refine wpAnyH_take (i := 15) (oi := ({ dst := some 72, op := Op.load 3 (Operand.tmp 71), type := 3, pos := "ref.go:100", after := #[{ on := 14, ground := Ground.data }, { on := 13, ground := Ground.guard }], guard := some (13, true) } : Oper)) (v := undef) rfl (by kernel_rfl) (by kernel_rfl) (by kernel_rfl) (fun _ _ _ h => h) (Or.inr ⟨by rfl, rfl⟩) hHeld ?_
                try simp only [Act.put, List.setIfInBounds_toArray, List.set_cons_zero, List.set_cons_succ]
                refine wpAnyH_take (i := 16) (oi := ({ dst := some 73, op := Op.binOp BinOp.eql 3 (Operand.tmp 72) (Operand.const (Value.int IntKind.i64 0)) 3, type := 4, pos := "ref.go:100", after := #[{ on := 15, ground := Ground.data }, { on := 13, ground := Ground.guard }], guard := some (13, true) } : Oper)) (v := undef) rfl (by kernel_rfl) (by kernel_rfl) (by kernel_rfl) (fun _ _ _ h => h) (Or.inr ⟨by rfl, rfl⟩) hHeld ?_
                try simp only [Act.put, List.setIfInBounds_toArray, List.set_cons_zero, List.set_cons_succ]
                refine wpAnyH_take (i := 17) (oi := ({ dst := some 74, op := Op.pick (Operand.tmp 70) (Operand.tmp 73) (Operand.const (Value.bool false)), type := 4, pos := "ref.go:100", after := #[{ on := 13, ground := Ground.data }, { on := 16, ground := Ground.data }, { on := 2, ground := Ground.guard }], guard := some (2, false) } : Oper)) (v := undef) rfl (by kernel_rfl) (by kernel_rfl) (by kernel_rfl) (fun _ _ _ h => h) (Or.inr ⟨by rfl, rfl⟩) hHeld ?_
                try simp only [Act.put, List.setIfInBounds_toArray, List.set_cons_zero, List.set_cons_succ]
                refine wpAnyH_take (i := 18) (oi := ({ dst := some 75, op := Op.pick (Operand.tmp 59) (Operand.const (Value.bool true)) (Operand.tmp 74), type := 4, pos := "ref.go:100", after := #[{ on := 2, ground := Ground.data }, { on := 17, ground := Ground.data }], guard := none } : Oper)) (v := ?_) rfl (by kernel_rfl) (by kernel_rfl) (by kernel_rfl) (fun _ _ _ h => h) (Or.inl ⟨by rfl, ?_⟩) hHeld ?_
                rotate_left
                · (intro w hSw; (try dsimp only at hSw); go_simp) <;> with_reducible rfl
                try simp only [Act.put, List.setIfInBounds_toArray, List.set_cons_zero, List.set_cons_succ]
                refine wpAnyH_take (i := 19) (oi := ({ dst := some 76, op := Op.indexAddr 68 (Operand.tmp 5) (Operand.const (Value.int IntKind.i64 16)), type := 0, pos := "ref.go:100", after := #[{ on := 0, ground := Ground.phase }, { on := 1, ground := Ground.phase }, { on := 2, ground := Ground.phase }, { on := 3, ground := Ground.phase }, { on := 4, ground := Ground.phase }, { on := 5, ground := Ground.phase }, { on := 6, ground := Ground.phase }, { on := 7, ground := Ground.phase }, { on := 8, ground := Ground.phase }, { on := 9, ground := Ground.phase }, { on := 10, ground := Ground.phase }, { on := 11, ground := Ground.phase }, { on := 12, ground := Ground.phase }, { on := 13, ground := Ground.phase }, { on := 14, ground := Ground.phase }, { on := 15, ground := Ground.phase }, { on := 16, ground := Ground.phase }, { on := 17, ground := Ground.phase }, { on := 18, ground := Ground.phase }], guard := none } : Oper)) (v := ?_) rfl (by kernel_rfl) (by kernel_rfl) (by kernel_rfl) (fun _ _ _ h => h) (Or.inl ⟨by rfl, ?_⟩) hHeld ?_
                rotate_left
                · (intro w hSw; (try dsimp only at hSw); go_simp) <;> with_reducible rfl
                try simp only [Act.put, List.setIfInBounds_toArray, List.set_cons_zero, List.set_cons_succ]
                refine wpAnyH_ready (rs := [20]) (by kernel_rfl) (by simp) ?_
                refine AllReadyH.cons (o := ({ dst := none, op := Op.store 4 (Operand.tmp 76) (Operand.tmp 75), type := 0, pos := "ref.go:100", after := #[{ on := 19, ground := Ground.data }, { on := 18, ground := Ground.data }, { on := 13, ground := Ground.chain }, { on := 0, ground := Ground.phase }, { on := 1, ground := Ground.phase }, { on := 2, ground := Ground.phase }, { on := 3, ground := Ground.phase }, { on := 4, ground := Ground.phase }, { on := 5, ground := Ground.phase }, { on := 6, ground := Ground.phase }, { on := 7, ground := Ground.phase }, { on := 8, ground := Ground.phase }, { on := 9, ground := Ground.phase }, { on := 10, ground := Ground.phase }, { on := 11, ground := Ground.phase }, { on := 12, ground := Ground.phase }, { on := 13, ground := Ground.phase }, { on := 14, ground := Ground.phase }, { on := 15, ground := Ground.phase }, { on := 16, ground := Ground.phase }, { on := 17, ground := Ground.phase }, { on := 18, ground := Ground.phase }], guard := none } : Oper)) rfl (fun K hK => ?_) (AllReadyH.nil)
                go_simp
                refine hK.out _ _ (HSs.out true) (fun hHeld => ?_)
                clear hK K
                try simp only [Act.put, List.setIfInBounds_toArray, List.set_cons_zero, List.set_cons_succ]
                refine wpAnyH_done (by kernel_rfl) ?_ _
                go_wp2_with fail
                go_roundw
                case rel => exact ⟨k + 1, _, by omega, by go_num, by rw [HZ2.out]; exact HV.out, .inl HOk.out, HZn.out true, HKn.out _, HBn.out _⟩
                case measure => simp [intOf]; omega
              | false =>
                rw [hb] at zc zcd
                by_cases hl1 : pl = s
                · have hl2 : (pl == s) = true := by rw [hl1]; simp
                  by_cases hx1 : xf = 0
                  · have HV := Lib.hid (HNew.out true (by rw [hb, Bool.false_or, decide_eq_true ⟨hl1, hx1⟩]))
                    have hx2 : (xf == 0) = true := by rw [hx1]; rfl
                    clear hx1 hl1
                    refine wp_region_held_drew (S := (fun wx => wx.cell? ⟨w.heap.size, 2, none⟩ = some (.int .i64 s) ∧ wx.cell? ⟨w.heap.size, 3, none⟩ = some (.slice (some ⟨bp, op, none⟩) len c) ∧ wx.cell? ⟨xb, 0, none⟩ = some (.int .i64 (i : Int)) ∧ wx.cell? ⟨xb, 2, none⟩ = some (.int .i64 xf) ∧ wx.cell? ⟨bp, op + i * 2, none⟩ = some (.int .i64 pl))) (by kernel_rfl) HSd.out (fun hHeld => ?_)
                    refine wpAnyH_take (i := 0) (oi := ({ dst := some 57, op := Op.indexAddr 68 (Operand.tmp 5) (Operand.const (Value.int IntKind.i64 16)), type := 0, pos := "ref.go:100", after := #[], guard := none } : Oper)) (v := ?_) rfl (by kernel_rfl) (by kernel_rfl) (by kernel_rfl) (fun _ _ _ h => h) (Or.inl ⟨by rfl, ?_⟩) hHeld ?_
                    rotate_left
                    · (intro w hSw; (try dsimp only at hSw); go_simp) <;> with_reducible rfl
                    try simp only [Act.put, List.setIfInBounds_toArray, List.set_cons_zero, List.set_cons_succ]
                    refine wpAnyH_ready (rs := [1]) (by kernel_rfl) (by simp) ?_
                    refine AllReadyH.cons (o := ({ dst := some 58, op := Op.load 4 (Operand.tmp 57), type := 4, pos := "ref.go:100", after := #[{ on := 0, ground := Ground.data }], guard := none } : Oper)) rfl (fun K hK => ?_) (AllReadyH.nil)
                    go_simp
                    refine hK.out _ _ HSd.out (fun hHeld => ?_)
                    clear hK K
                    try simp only [Act.put, List.setIfInBounds_toArray, List.set_cons_zero, List.set_cons_succ]
                    refine wpAnyH_take (i := 2) (oi := ({ dst := some 59, op := Op.move (Operand.tmp 58), type := 4, pos := "ref.go:100", after := #[{ on := 1, ground := Ground.data }], guard := none } : Oper)) (v := ?_) rfl (by kernel_rfl) (by kernel_rfl) (by kernel_rfl) (fun _ _ _ h => h) (Or.inl ⟨by rfl, ?_⟩) hHeld ?_
                    rotate_left
                    · (intro w hSw; (try dsimp only at hSw); go_simp) <;> with_reducible rfl
                    try simp only [Act.put, List.setIfInBounds_toArray, List.set_cons_zero, List.set_cons_succ]
                    refine wpAnyH_take (i := 3) (oi := ({ dst := some 60, op := Op.fieldAddr 24 (Operand.tmp 2) 3, type := 0, pos := "ref.go:100", after := #[{ on := 2, ground := Ground.guard }], guard := some (2, false) } : Oper)) (v := ?_) rfl (by kernel_rfl) (by kernel_rfl) (by kernel_rfl) (fun _ _ _ h => h) (Or.inl ⟨by rfl, ?_⟩) hHeld ?_
                    rotate_left
                    · (intro w hSw; (try dsimp only at hSw); go_simp) <;> with_reducible rfl
                    try simp only [Act.put, List.setIfInBounds_toArray, List.set_cons_zero, List.set_cons_succ]
                    refine wpAnyH_take (i := 4) (oi := ({ dst := some 61, op := Op.load 22 (Operand.tmp 60), type := 22, pos := "ref.go:100", after := #[{ on := 3, ground := Ground.data }, { on := 2, ground := Ground.guard }], guard := some (2, false) } : Oper)) (v := ?_) rfl (by kernel_rfl) (by kernel_rfl) (by kernel_rfl) (fun _ _ _ h => h) (Or.inl ⟨by rfl, ?_⟩) hHeld ?_
                    rotate_left
                    · (intro w hSw; (try dsimp only at hSw); go_simp) <;> with_reducible rfl
                    try simp only [Act.put, List.setIfInBounds_toArray, List.set_cons_zero, List.set_cons_succ]
                    refine wpAnyH_take (i := 5) (oi := ({ dst := some 62, op := Op.fieldAddr 42 (Operand.tmp 7) 0, type := 0, pos := "ref.go:100", after := #[{ on := 2, ground := Ground.guard }], guard := some (2, false) } : Oper)) (v := ?_) rfl (by kernel_rfl) (by kernel_rfl) (by kernel_rfl) (fun _ _ _ h => h) (Or.inl ⟨by rfl, ?_⟩) hHeld ?_
                    rotate_left
                    · (intro w hSw; (try dsimp only at hSw); go_simp) <;> with_reducible rfl
                    try simp only [Act.put, List.setIfInBounds_toArray, List.set_cons_zero, List.set_cons_succ]
                    refine wpAnyH_take (i := 6) (oi := ({ dst := some 63, op := Op.load 3 (Operand.tmp 62), type := 3, pos := "ref.go:100", after := #[{ on := 5, ground := Ground.data }, { on := 2, ground := Ground.guard }], guard := some (2, false) } : Oper)) (v := ?_) rfl (by kernel_rfl) (by kernel_rfl) (by kernel_rfl) (fun _ _ _ h => h) (Or.inl ⟨by rfl, ?_⟩) hHeld ?_
                    rotate_left
                    · (intro w hSw; (try dsimp only at hSw); go_simp) <;> with_reducible rfl
                    try simp only [Act.put, List.setIfInBounds_toArray, List.set_cons_zero, List.set_cons_succ]
                    refine wpAnyH_take (i := 7) (oi := ({ dst := some 64, op := Op.indexAddr 22 (Operand.tmp 61) (Operand.tmp 63), type := 0, pos := "ref.go:100", after := #[{ on := 4, ground := Ground.data }, { on := 6, ground := Ground.data }, { on := 2, ground := Ground.guard }], guard := some (2, false) } : Oper)) (v := ?_) rfl (by kernel_rfl) (by kernel_rfl) (by kernel_rfl) (fun _ _ _ h => h) (Or.inl ⟨by rfl, ?_⟩) hHeld ?_
                    rotate_left
                    · (intro w hSw; (try dsimp only at hSw); go_simp) <;> with_reducible rfl
                    try simp only [Act.put, List.setIfInBounds_toArray, List.set_cons_zero, List.set_cons_succ]
                    refine wpAnyH_take (i := 8) (oi := ({ dst := some 65, op := Op.fieldAddr 45 (Operand.tmp 64) 0, type := 0, pos := "ref.go:100", after := #[{ on := 7, ground := Ground.data }, { on := 2, ground := Ground.guard }], guard := some (2, false) } : Oper)) (v := ?_) rfl (by kernel_rfl) (by kernel_rfl) (by kernel_rfl) (fun _ _ _ h => h) (Or.inl ⟨by rfl, ?_⟩) hHeld ?_
                    rotate_left
                    · (intro w hSw; (try dsimp only at hSw); go_simp) <;> with_reducible rfl
                    try simp only [Act.put, List.setIfInBounds_toArray, List.set_cons_zero, List.set_cons_succ]
                    refine wpAnyH_take (i := 9) (oi := ({ dst := some 66, op := Op.load 3 (Operand.tmp 65), type := 3, pos := "ref.go:100", after := #[{ on := 8, ground := Ground.data }, { on := 2, ground := Ground.guard }], guard := some (2, false) } : Oper)) (v := ?_) rfl (by kernel_rfl) (by kernel_rfl) (by kernel_rfl) (fun _ _ _ h => h) (Or.inl ⟨by rfl, ?_⟩) hHeld ?_
                    rotate_left
                    · (intro w hSw; (try dsimp only at hSw); go_simp) <;> with_reducible rfl
                    try simp only [Act.put, List.setIfInBounds_toArray, List.set_cons_zero, List.set_cons_succ]
                    refine wpAnyH_take (i := 10) (oi := ({ dst := some 67, op := Op.fieldAddr 24 (Operand.tmp 2) 2, type := 0, pos := "ref.go:100", after := #[{ on := 2, ground := Ground.guard }], guard := some (2, false) } : Oper)) (v := ?_) rfl (by kernel_rfl) (by kernel_rfl) (by kernel_rfl) (fun _ _ _ h => h) (Or.inl ⟨by rfl, ?_⟩) hHeld ?_
                    rotate_left
                    · (intro w hSw; (try dsimp only at hSw); go_simp) <;> with_reducible rfl
                    try simp only [Act.put, List.setIfInBounds_toArray, List.set_cons_zero, List.set_cons_succ]
                    refine wpAnyH_take (i := 11) (oi := ({ dst := some 68, op := Op.load 3 (Operand.tmp 67), type := 3, pos := "ref.go:100", after := #[{ on := 10, ground := Ground.data }, { on := 2, ground := Ground.guard }], guard := some (2, false) } : Oper)) (v := ?_) rfl (by kernel_rfl) (by kernel_rfl) (by kernel_rfl) (fun _ _ _ h => h) (Or.inl ⟨by rfl, ?_⟩) hHeld ?_
                    rotate_left
                    · (intro w hSw; (try dsimp only at hSw); go_simp) <;> with_reducible rfl
                    try simp only [Act.put, List.setIfInBounds_toArray, List.set_cons_zero, List.set_cons_succ]
                    refine wpAnyH_take (i := 12) (oi := ({ dst := some 69, op := Op.binOp BinOp.eql 3 (Operand.tmp 66) (Operand.tmp 68) 3, type := 4, pos := "ref.go:100", after := #[{ on := 9, ground := Ground.data }, { on := 11, ground := Ground.data }, { on := 2, ground := Ground.guard }], guard := some (2, false) } : Oper)) (v := ?_) rfl (by kernel_rfl) (by kernel_rfl) (by kernel_rfl) (fun _ _ _ h => h) (Or.inl ⟨by rfl, ?_⟩) hHeld ?_
                    rotate_left
                    · (intro w hSw; (try dsimp only at hSw); go_simp) <;> with_reducible rfl
                    try simp only [Act.put, List.setIfInBounds_toArray, List.set_cons_zero, List.set_cons_succ]
                    refine wpAnyH_take (i := 13) (oi := ({ dst := some 70, op := Op.move (Operand.tmp 69), type := 4, pos := "ref.go:100", after := #[{ on := 12, ground := Ground.data }, { on := 2, ground := Ground.chain }, { on := 2, ground := Ground.guard }], guard := some (2, false) } : Oper)) (v := ?_) rfl (by kernel_rfl) (by kernel_rfl) (by kernel_rfl) (fun _ _ _ h => h) (Or.inl ⟨by rfl, ?_⟩) hHeld ?_
                    rotate_left
                    · (intro w hSw; (try dsimp only at hSw); go_simp) <;> with_reducible rfl
                    try simp only [Act.put, List.setIfInBounds_toArray, List.set_cons_zero, List.set_cons_succ]
                    refine wpAnyH_take (i := 14) (oi := ({ dst := some 71, op := Op.fieldAddr 42 (Operand.tmp 7) 2, type := 0, pos := "ref.go:100", after := #[{ on := 13, ground := Ground.guard }], guard := some (13, true) } : Oper)) (v := ?_) rfl (by kernel_rfl) (by kernel_rfl) (by kernel_rfl) (fun _ _ _ h => h) (Or.inl ⟨by rfl, ?_⟩) hHeld ?_
                    rotate_left
                    · (intro w hSw; (try dsimp only at hSw); go_simp) <;> with_reducible rfl
                    try simp only [Act.put, List.setIfInBounds_toArray, List.set_cons_zero, List.set_cons_succ]
                    refine wpAnyH_take (i := 15) (oi := ({ dst := some 72, op := Op.load 3 (Operand.tmp 71), type := 3, pos := "ref.go:100", after := #[{ on := 14, ground := Ground.data }, { on := 13, ground := Ground.guard }], guard := some (13, true) } : Oper)) (v := ?_) rfl (by kernel_rfl) (by kernel_rfl) (by kernel_rfl) (fun _ _ _ h => h) (Or.inl ⟨by rfl, ?_⟩) hHeld ?_
                    rotate_left
                    · (intro w hSw; (try dsimp only at hSw); go_simp) <;> with_reducible rfl
                    try simp only [Act.put, List.setIfInBounds_toArray, List.set_cons_zero, List.set_cons_succ]
                    refine wpAnyH_take (i := 16) (oi := ({ dst := some 73, op := Op.binOp BinOp.eql 3 (Operand.tmp 72) (Operand.const (Value.int IntKind.i64 0)) 3, type := 4, pos := "ref.go:100", after := #[{ on := 15, ground := Ground.data }, { on := 13, ground := Ground.guard }], guard := some (13, true) } : Oper)) (v := ?_) rfl (by kernel_rfl) (by kernel_rfl) (by kernel_rfl) (fun _ _ _ h => h) (Or.inl ⟨by rfl, ?_⟩) hHeld ?_
                    rotate_left
                    · (intro w hSw; (try dsimp only at hSw); go_simp) <;> with_reducible rfl
                    try simp only [Act.put, List.setIfInBounds_toArray, List.set_cons_zero, List.set_cons_succ]
                    refine wpAnyH_take (i := 17) (oi := ({ dst := some 74, op := Op.pick (Operand.tmp 70) (Operand.tmp 73) (Operand.const (Value.bool false)), type := 4, pos := "ref.go:100", after := #[{ on := 13, ground := Ground.data }, { on := 16, ground := Ground.data }, { on := 2, ground := Ground.guard }], guard := some (2, false) } : Oper)) (v := ?_) rfl (by kernel_rfl) (by kernel_rfl) (by kernel_rfl) (fun _ _ _ h => h) (Or.inl ⟨by rfl, ?_⟩) hHeld ?_
                    rotate_left
                    · (intro w hSw; (try dsimp only at hSw); go_simp) <;> with_reducible rfl
                    try simp only [Act.put, List.setIfInBounds_toArray, List.set_cons_zero, List.set_cons_succ]
                    refine wpAnyH_take (i := 18) (oi := ({ dst := some 75, op := Op.pick (Operand.tmp 59) (Operand.const (Value.bool true)) (Operand.tmp 74), type := 4, pos := "ref.go:100", after := #[{ on := 2, ground := Ground.data }, { on := 17, ground := Ground.data }], guard := none } : Oper)) (v := ?_) rfl (by kernel_rfl) (by kernel_rfl) (by kernel_rfl) (fun _ _ _ h => h) (Or.inl ⟨by rfl, ?_⟩) hHeld ?_
                    rotate_left
                    · (intro w hSw; (try dsimp only at hSw); go_simp) <;> with_reducible rfl
                    try simp only [Act.put, List.setIfInBounds_toArray, List.set_cons_zero, List.set_cons_succ]
                    refine wpAnyH_take (i := 19) (oi := ({ dst := some 76, op := Op.indexAddr 68 (Operand.tmp 5) (Operand.const (Value.int IntKind.i64 16)), type := 0, pos := "ref.go:100", after := #[{ on := 0, ground := Ground.phase }, { on := 1, ground := Ground.phase }, { on := 2, ground := Ground.phase }, { on := 3, ground := Ground.phase }, { on := 4, ground := Ground.phase }, { on := 5, ground := Ground.phase }, { on := 6, ground := Ground.phase }, { on := 7, ground := Ground.phase }, { on := 8, ground := Ground.phase }, { on := 9, ground := Ground.phase }, { on := 10, ground := Ground.phase }, { on := 11, ground := Ground.phase }, { on := 12, ground := Ground.phase }, { on := 13, ground := Ground.phase }, { on := 14, ground := Ground.phase }, { on := 15, ground := Ground.phase }, { on := 16, ground := Ground.phase }, { on := 17, ground := Ground.phase }, { on := 18, ground := Ground.phase }], guard := none } : Oper)) (v := ?_) rfl (by kernel_rfl) (by kernel_rfl) (by kernel_rfl) (fun _ _ _ h => h) (Or.inl ⟨by rfl, ?_⟩) hHeld ?_
                    rotate_left
                    · (intro w hSw; (try dsimp only at hSw); go_simp) <;> with_reducible rfl
                    try simp only [Act.put, List.setIfInBounds_toArray, List.set_cons_zero, List.set_cons_succ]
                    refine wpAnyH_ready (rs := [20]) (by kernel_rfl) (by simp) ?_
                    refine AllReadyH.cons (o := ({ dst := none, op := Op.store 4 (Operand.tmp 76) (Operand.tmp 75), type := 0, pos := "ref.go:100", after := #[{ on := 19, ground := Ground.data }, { on := 18, ground := Ground.data }, { on := 13, ground := Ground.chain }, { on := 0, ground := Ground.phase }, { on := 1, ground := Ground.phase }, { on := 2, ground := Ground.phase }, { on := 3, ground := Ground.phase }, { on := 4, ground := Ground.phase }, { on := 5, ground := Ground.phase }, { on := 6, ground := Ground.phase }, { on := 7, ground := Ground.phase }, { on := 8, ground := Ground.phase }, { on := 9, ground := Ground.phase }, { on := 10, ground := Ground.phase }, { on := 11, ground := Ground.phase }, { on := 12, ground := Ground.phase }, { on := 13, ground := Ground.phase }, { on := 14, ground := Ground.phase }, { on := 15, ground := Ground.phase }, { on := 16, ground := Ground.phase }, { on := 17, ground := Ground.phase }, { on := 18, ground := Ground.phase }], guard := none } : Oper)) rfl (fun K hK => ?_) (AllReadyH.nil)
                    go_simp
                    refine hK.out _ _ (HSs.out true) (fun hHeld => ?_)
                    clear hK K
                    try simp only [Act.put, List.setIfInBounds_toArray, List.set_cons_zero, List.set_cons_succ]
                    refine wpAnyH_done (by kernel_rfl) ?_ _
                    go_wp2_with fail
                    go_roundw
                    case rel => exact ⟨k + 1, _, by omega, by go_num, by rw [HZ2.out]; exact HV.out, .inl HOk.out, HZn.out true, HKn.out _, HBn.out _⟩
                    case measure => simp [intOf]; omega
                  · have HV := Lib.hid (HNew.out false (by rw [hb, Bool.false_or, decide_eq_false (fun h => hx1 h.2)]))
                    have hx2 : (xf == 0) = false := by rw [beq_eq_false_iff_ne]; exact hx1
                    clear hx1 hl1
                    refine wp_region_held_drew (S := (fun wx => wx.cell? ⟨w.heap.size, 2, none⟩ = some (.int .i64 s) ∧ wx.cell? ⟨w.heap.size, 3, none⟩ = some (.slice (some ⟨bp, op, none⟩) len c) ∧ wx.cell? ⟨xb, 0, none⟩ = some (.int .i64 (i : Int)) ∧ wx.cell? ⟨xb, 2, none⟩ = some (.int .i64 xf) ∧ wx.cell? ⟨bp, op + i * 2, none⟩ = some (.int .i64 pl))) (by kernel_rfl) HSd.out (fun hHeld => ?_)
                    refine wpAnyH_take (i := 0) (oi := ({ dst := some 57, op := Op.indexAddr 68 (Operand.tmp 5) (Operand.const (Value.int IntKind.i64 16)), type := 0, pos := "ref.go:100", after := #[], guard := none } : Oper)) (v := ?_) rfl (by kernel_rfl) (by kernel_rfl) (by kernel_rfl) (fun _ _ _ h => h) (Or.inl ⟨by rfl, ?_⟩) hHeld ?_
                    rotate_left
                    · (intro w hSw; (try dsimp only at hSw); go_simp) <;> with_reducible rfl
                    try simp only [Act.put, List.setIfInBounds_toArray, List.set_cons_zero, List.set_cons_succ]
                    refine wpAnyH_ready (rs := [1]) (by kernel_rfl) (by simp) ?_
                    refine AllReadyH.cons (o := ({ dst := some 58, op := Op.load 4 (Operand.tmp 57), type := 4, pos := "ref.go:100", after := #[{ on := 0, ground := Ground.data }], guard := none } : Oper)) rfl (fun K hK => ?_) (AllReadyH.nil)
                    go_simp
                    refine hK.out _ _ HSd.out (fun hHeld => ?_)
                    clear hK K
                    try simp only [Act.put, List.setIfInBounds_toArray, List.set_cons_zero, List.set_cons_succ]
                    refine wpAnyH_take (i := 2) (oi := ({ dst := some 59, op := Op.move (Operand.tmp 58), type := 4, pos := "ref.go:100", after := #[{ on := 1, ground := Ground.data }], guard := none } : Oper)) (v := ?_) rfl (by kernel_rfl) (by kernel_rfl) (by kernel_rfl) (fun _ _ _ h => h) (Or.inl ⟨by rfl, ?_⟩) hHeld ?_
                    rotate_left
                    · (intro w hSw; (try dsimp only at hSw); go_simp) <;> with_reducible rfl
                    try simp only [Act.put, List.setIfInBounds_toArray, List.set_cons_zero, List.set_cons_succ]
                    refine wpAnyH_take (i := 3) (oi := ({ dst := some 60, op := Op.fieldAddr 24 (Operand.tmp 2) 3, type := 0, pos := "ref.go:100", after := #[{ on := 2, ground := Ground.guard }], guard := some (2, false) } : Oper)) (v := ?_) rfl (by kernel_rfl) (by kernel_rfl) (by kernel_rfl) (fun _ _ _ h => h) (Or.inl ⟨by rfl, ?_⟩) hHeld ?_
                    rotate_left
                    · (intro w hSw; (try dsimp only at hSw); go_simp) <;> with_reducible rfl
                    try simp only [Act.put, List.setIfInBounds_toArray, List.set_cons_zero, List.set_cons_succ]
                    refine wpAnyH_take (i := 4) (oi := ({ dst := some 61, op := Op.load 22 (Operand.tmp 60), type := 22, pos := "ref.go:100", after := #[{ on := 3, ground := Ground.data }, { on := 2, ground := Ground.guard }], guard := some (2, false) } : Oper)) (v := ?_) rfl (by kernel_rfl) (by kernel_rfl) (by kernel_rfl) (fun _ _ _ h => h) (Or.inl ⟨by rfl, ?_⟩) hHeld ?_
                    rotate_left
                    · (intro w hSw; (try dsimp only at hSw); go_simp) <;> with_reducible rfl
                    try simp only [Act.put, List.setIfInBounds_toArray, List.set_cons_zero, List.set_cons_succ]
                    refine wpAnyH_take (i := 5) (oi := ({ dst := some 62, op := Op.fieldAddr 42 (Operand.tmp 7) 0, type := 0, pos := "ref.go:100", after := #[{ on := 2, ground := Ground.guard }], guard := some (2, false) } : Oper)) (v := ?_) rfl (by kernel_rfl) (by kernel_rfl) (by kernel_rfl) (fun _ _ _ h => h) (Or.inl ⟨by rfl, ?_⟩) hHeld ?_
                    rotate_left
                    · (intro w hSw; (try dsimp only at hSw); go_simp) <;> with_reducible rfl
                    try simp only [Act.put, List.setIfInBounds_toArray, List.set_cons_zero, List.set_cons_succ]
                    refine wpAnyH_take (i := 6) (oi := ({ dst := some 63, op := Op.load 3 (Operand.tmp 62), type := 3, pos := "ref.go:100", after := #[{ on := 5, ground := Ground.data }, { on := 2, ground := Ground.guard }], guard := some (2, false) } : Oper)) (v := ?_) rfl (by kernel_rfl) (by kernel_rfl) (by kernel_rfl) (fun _ _ _ h => h) (Or.inl ⟨by rfl, ?_⟩) hHeld ?_
                    rotate_left
                    · (intro w hSw; (try dsimp only at hSw); go_simp) <;> with_reducible rfl
                    try simp only [Act.put, List.setIfInBounds_toArray, List.set_cons_zero, List.set_cons_succ]
                    refine wpAnyH_take (i := 7) (oi := ({ dst := some 64, op := Op.indexAddr 22 (Operand.tmp 61) (Operand.tmp 63), type := 0, pos := "ref.go:100", after := #[{ on := 4, ground := Ground.data }, { on := 6, ground := Ground.data }, { on := 2, ground := Ground.guard }], guard := some (2, false) } : Oper)) (v := ?_) rfl (by kernel_rfl) (by kernel_rfl) (by kernel_rfl) (fun _ _ _ h => h) (Or.inl ⟨by rfl, ?_⟩) hHeld ?_
                    rotate_left
                    · (intro w hSw; (try dsimp only at hSw); go_simp) <;> with_reducible rfl
                    try simp only [Act.put, List.setIfInBounds_toArray, List.set_cons_zero, List.set_cons_succ]
                    refine wpAnyH_take (i := 8) (oi := ({ dst := some 65, op := Op.fieldAddr 45 (Operand.tmp 64) 0, type := 0, pos := "ref.go:100", after := #[{ on := 7, ground := Ground.data }, { on := 2, ground := Ground.guard }], guard := some (2, false) } : Oper)) (v := ?_) rfl (by kernel_rfl) (by kernel_rfl) (by kernel_rfl) (fun _ _ _ h => h) (Or.inl ⟨by rfl, ?_⟩) hHeld ?_
                    rotate_left
                    · (intro w hSw; (try dsimp only at hSw); go_simp) <;> with_reducible rfl
                    try simp only [Act.put, List.setIfInBounds_toArray, List.set_cons_zero, List.set_cons_succ]
                    refine wpAnyH_take (i := 9) (oi := ({ dst := some 66, op := Op.load 3 (Operand.tmp 65), type := 3, pos := "ref.go:100", after := #[{ on := 8, ground := Ground.data }, { on := 2, ground := Ground.guard }], guard := some (2, false) } : Oper)) (v := ?_) rfl (by kernel_rfl) (by kernel_rfl) (by kernel_rfl) (fun _ _ _ h => h) (Or.inl ⟨by rfl, ?_⟩) hHeld ?_
                    rotate_left
                    · (intro w hSw; (try dsimp only at hSw); go_simp) <;> with_reducible rfl
                    try simp only [Act.put, List.setIfInBounds_toArray, List.set_cons_zero, List.set_cons_succ]
                    refine wpAnyH_take (i := 10) (oi := ({ dst := some 67, op := Op.fieldAddr 24 (Operand.tmp 2) 2, type := 0, pos := "ref.go:100", after := #[{ on := 2, ground := Ground.guard }], guard := some (2, false) } : Oper)) (v := ?_) rfl (by kernel_rfl) (by kernel_rfl) (by kernel_rfl) (fun _ _ _ h => h) (Or.inl ⟨by rfl, ?_⟩) hHeld ?_
                    rotate_left
                    · (intro w hSw; (try dsimp only at hSw); go_simp) <;> with_reducible rfl
                    try simp only [Act.put, List.setIfInBounds_toArray, List.set_cons_zero, List.set_cons_succ]
                    refine wpAnyH_take (i := 11) (oi := ({ dst := some 68, op := Op.load 3 (Operand.tmp 67), type := 3, pos := "ref.go:100", after := #[{ on := 10, ground := Ground.data }, { on := 2, ground := Ground.guard }], guard := some (2, false) } : Oper)) (v := ?_) rfl (by kernel_rfl) (by kernel_rfl) (by kernel_rfl) (fun _ _ _ h => h) (Or.inl ⟨by rfl, ?_⟩) hHeld ?_
                    rotate_left
                    · (intro w hSw; (try dsimp only at hSw); go_simp) <;> with_reducible rfl
                    try simp only [Act.put, List.setIfInBounds_toArray, List.set_cons_zero, List.set_cons_succ]
                    refine wpAnyH_take (i := 12) (oi := ({ dst := some 69, op := Op.binOp BinOp.eql 3 (Operand.tmp 66) (Operand.tmp 68) 3, type := 4, pos := "ref.go:100", after := #[{ on := 9, ground := Ground.data }, { on := 11, ground := Ground.data }, { on := 2, ground := Ground.guard }], guard := some (2, false) } : Oper)) (v := ?_) rfl (by kernel_rfl) (by kernel_rfl) (by kernel_rfl) (fun _ _ _ h => h) (Or.inl ⟨by rfl, ?_⟩) hHeld ?_
                    rotate_left
                    · (intro w hSw; (try dsimp only at hSw); go_simp) <;> with_reducible rfl
                    try simp only [Act.put, List.setIfInBounds_toArray, List.set_cons_zero, List.set_cons_succ]
                    refine wpAnyH_take (i := 13) (oi := ({ dst := some 70, op := Op.move (Operand.tmp 69), type := 4, pos := "ref.go:100", after := #[{ on := 12, ground := Ground.data }, { on := 2, ground := Ground.chain }, { on := 2, ground := Ground.guard }], guard := some (2, false) } : Oper)) (v := ?_) rfl (by kernel_rfl) (by kernel_rfl) (by kernel_rfl) (fun _ _ _ h => h) (Or.inl ⟨by rfl, ?_⟩) hHeld ?_
                    rotate_left
                    · (intro w hSw; (try dsimp only at hSw); go_simp) <;> with_reducible rfl
                    try simp only [Act.put, List.setIfInBounds_toArray, List.set_cons_zero, List.set_cons_succ]
                    refine wpAnyH_take (i := 14) (oi := ({ dst := some 71, op := Op.fieldAddr 42 (Operand.tmp 7) 2, type := 0, pos := "ref.go:100", after := #[{ on := 13, ground := Ground.guard }], guard := some (13, true) } : Oper)) (v := ?_) rfl (by kernel_rfl) (by kernel_rfl) (by kernel_rfl) (fun _ _ _ h => h) (Or.inl ⟨by rfl, ?_⟩) hHeld ?_
                    rotate_left
                    · (intro w hSw; (try dsimp only at hSw); go_simp) <;> with_reducible rfl
                    try simp only [Act.put, List.setIfInBounds_toArray, List.set_cons_zero, List.set_cons_succ]
                    refine wpAnyH_take (i := 15) (oi := ({ dst := some 72, op := Op.load 3 (Operand.tmp 71), type := 3, pos := "ref.go:100", after := #[{ on := 14, ground := Ground.data }, { on := 13, ground := Ground.guard }], guard := some (13, true) } : Oper)) (v := ?_) rfl (by kernel_rfl) (by kernel_rfl) (by kernel_rfl) (fun _ _ _ h => h) (Or.inl ⟨by rfl, ?_⟩) hHeld ?_
                    rotate_left
                    · (intro w hSw; (try dsimp only at hSw); go_simp) <;> with_reducible rfl
                    try simp only [Act.put, List.setIfInBounds_toArray, List.set_cons_zero, List.set_cons_succ]
                    refine wpAnyH_take (i := 16) (oi := ({ dst := some 73, op := Op.binOp BinOp.eql 3 (Operand.tmp 72) (Operand.const (Value.int IntKind.i64 0)) 3, type := 4, pos := "ref.go:100", after := #[{ on := 15, ground := Ground.data }, { on := 13, ground := Ground.guard }], guard := some (13, true) } : Oper)) (v := ?_) rfl (by kernel_rfl) (by kernel_rfl) (by kernel_rfl) (fun _ _ _ h => h) (Or.inl ⟨by rfl, ?_⟩) hHeld ?_
                    rotate_left
                    · (intro w hSw; (try dsimp only at hSw); go_simp) <;> with_reducible rfl
                    try simp only [Act.put, List.setIfInBounds_toArray, List.set_cons_zero, List.set_cons_succ]
                    refine wpAnyH_take (i := 17) (oi := ({ dst := some 74, op := Op.pick (Operand.tmp 70) (Operand.tmp 73) (Operand.const (Value.bool false)), type := 4, pos := "ref.go:100", after := #[{ on := 13, ground := Ground.data }, { on := 16, ground := Ground.data }, { on := 2, ground := Ground.guard }], guard := some (2, false) } : Oper)) (v := ?_) rfl (by kernel_rfl) (by kernel_rfl) (by kernel_rfl) (fun _ _ _ h => h) (Or.inl ⟨by rfl, ?_⟩) hHeld ?_
                    rotate_left
                    · (intro w hSw; (try dsimp only at hSw); go_simp) <;> with_reducible rfl
                    try simp only [Act.put, List.setIfInBounds_toArray, List.set_cons_zero, List.set_cons_succ]
                    refine wpAnyH_take (i := 18) (oi := ({ dst := some 75, op := Op.pick (Operand.tmp 59) (Operand.const (Value.bool true)) (Operand.tmp 74), type := 4, pos := "ref.go:100", after := #[{ on := 2, ground := Ground.data }, { on := 17, ground := Ground.data }], guard := none } : Oper)) (v := ?_) rfl (by kernel_rfl) (by kernel_rfl) (by kernel_rfl) (fun _ _ _ h => h) (Or.inl ⟨by rfl, ?_⟩) hHeld ?_
                    rotate_left
                    · (intro w hSw; (try dsimp only at hSw); go_simp) <;> with_reducible rfl
                    try simp only [Act.put, List.setIfInBounds_toArray, List.set_cons_zero, List.set_cons_succ]
                    refine wpAnyH_take (i := 19) (oi := ({ dst := some 76, op := Op.indexAddr 68 (Operand.tmp 5) (Operand.const (Value.int IntKind.i64 16)), type := 0, pos := "ref.go:100", after := #[{ on := 0, ground := Ground.phase }, { on := 1, ground := Ground.phase }, { on := 2, ground := Ground.phase }, { on := 3, ground := Ground.phase }, { on := 4, ground := Ground.phase }, { on := 5, ground := Ground.phase }, { on := 6, ground := Ground.phase }, { on := 7, ground := Ground.phase }, { on := 8, ground := Ground.phase }, { on := 9, ground := Ground.phase }, { on := 10, ground := Ground.phase }, { on := 11, ground := Ground.phase }, { on := 12, ground := Ground.phase }, { on := 13, ground := Ground.phase }, { on := 14, ground := Ground.phase }, { on := 15, ground := Ground.phase }, { on := 16, ground := Ground.phase }, { on := 17, ground := Ground.phase }, { on := 18, ground := Ground.phase }], guard := none } : Oper)) (v := ?_) rfl (by kernel_rfl) (by kernel_rfl) (by kernel_rfl) (fun _ _ _ h => h) (Or.inl ⟨by rfl, ?_⟩) hHeld ?_
                    rotate_left
                    · (intro w hSw; (try dsimp only at hSw); go_simp) <;> with_reducible rfl
                    try simp only [Act.put, List.setIfInBounds_toArray, List.set_cons_zero, List.set_cons_succ]
                    refine wpAnyH_ready (rs := [20]) (by kernel_rfl) (by simp) ?_
                    refine AllReadyH.cons (o := ({ dst := none, op := Op.store 4 (Operand.tmp 76) (Operand.tmp 75), type := 0, pos := "ref.go:100", after := #[{ on := 19, ground := Ground.data }, { on := 18, ground := Ground.data }, { on := 13, ground := Ground.chain }, { on := 0, ground := Ground.phase }, { on := 1, ground := Ground.phase }, { on := 2, ground := Ground.phase }, { on := 3, ground := Ground.phase }, { on := 4, ground := Ground.phase }, { on := 5, ground := Ground.phase }, { on := 6, ground := Ground.phase }, { on := 7, ground := Ground.phase }, { on := 8, ground := Ground.phase }, { on := 9, ground := Ground.phase }, { on := 10, ground := Ground.phase }, { on := 11, ground := Ground.phase }, { on := 12, ground := Ground.phase }, { on := 13, ground := Ground.phase }, { on := 14, ground := Ground.phase }, { on := 15, ground := Ground.phase }, { on := 16, ground := Ground.phase }, { on := 17, ground := Ground.phase }, { on := 18, ground := Ground.phase }], guard := none } : Oper)) rfl (fun K hK => ?_) (AllReadyH.nil)
                    go_simp
                    refine hK.out _ _ (HSs.out false) (fun hHeld => ?_)
                    clear hK K
                    try simp only [Act.put, List.setIfInBounds_toArray, List.set_cons_zero, List.set_cons_succ]
                    refine wpAnyH_done (by kernel_rfl) ?_ _
                    go_wp2_with fail
                    go_roundw
                    case rel => exact ⟨k + 1, _, by omega, by go_num, by rw [HZ2.out]; exact HV.out, .inl HOk.out, HZn.out false, HKn.out _, HBn.out _⟩
                    case measure => simp [intOf]; omega
                · have HV := Lib.hid (HNew.out false (by rw [hb, Bool.false_or, decide_eq_false (fun h => hl1 h.1)]))
                  have hl2 : (pl == s) = false := by rw [beq_eq_false_iff_ne]; exact hl1
                  clear hl1
                  refine wp_region_held_drew (S := (fun wx => wx.cell? ⟨w.heap.size, 2, none⟩ = some (.int .i64 s) ∧ wx.cell? ⟨w.heap.size, 3, none⟩ = some (.slice (some ⟨bp, op, none⟩) len c) ∧ wx.cell? ⟨xb, 0, none⟩ = some (.int .i64 (i : Int)) ∧ wx.cell? ⟨xb, 2, none⟩ = some (.int .i64 xf) ∧ wx.cell? ⟨bp, op + i * 2, none⟩ = some (.int .i64 pl))) (by kernel_rfl) HSd.out (fun hHeld => ?_)
                  refine wpAnyH_take (i := 0) (oi := ({ dst := some 57, op := Op.indexAddr 68 (Operand.tmp 5) (Operand.const (Value.int IntKind.i64 16)), type := 0, pos := "ref.go:100", after := #[], guard := none } : Oper)) (v := ?_) rfl (by kernel_rfl) (by kernel_rfl) (by kernel_rfl) (fun _ _ _ h => h) (Or.inl ⟨by rfl, ?_⟩) hHeld ?_
                  rotate_left
                  · (intro w hSw; (try dsimp only at hSw); go_simp) <;> with_reducible rfl
                  try simp only [Act.put, List.setIfInBounds_toArray, List.set_cons_zero, List.set_cons_succ]
                  refine wpAnyH_ready (rs := [1]) (by kernel_rfl) (by simp) ?_
                  refine AllReadyH.cons (o := ({ dst := some 58, op := Op.load 4 (Operand.tmp 57), type := 4, pos := "ref.go:100", after := #[{ on := 0, ground := Ground.data }], guard := none } : Oper)) rfl (fun K hK => ?_) (AllReadyH.nil)
                  go_simp
                  refine hK.out _ _ HSd.out (fun hHeld => ?_)
                  clear hK K
                  try simp only [Act.put, List.setIfInBounds_toArray, List.set_cons_zero, List.set_cons_succ]
                  refine wpAnyH_take (i := 2) (oi := ({ dst := some 59, op := Op.move (Operand.tmp 58), type := 4, pos := "ref.go:100", after := #[{ on := 1, ground := Ground.data }], guard := none } : Oper)) (v := ?_) rfl (by kernel_rfl) (by kernel_rfl) (by kernel_rfl) (fun _ _ _ h => h) (Or.inl ⟨by rfl, ?_⟩) hHeld ?_
                  rotate_left
                  · (intro w hSw; (try dsimp only at hSw); go_simp) <;> with_reducible rfl
                  try simp only [Act.put, List.setIfInBounds_toArray, List.set_cons_zero, List.set_cons_succ]
                  refine wpAnyH_take (i := 3) (oi := ({ dst := some 60, op := Op.fieldAddr 24 (Operand.tmp 2) 3, type := 0, pos := "ref.go:100", after := #[{ on := 2, ground := Ground.guard }], guard := some (2, false) } : Oper)) (v := ?_) rfl (by kernel_rfl) (by kernel_rfl) (by kernel_rfl) (fun _ _ _ h => h) (Or.inl ⟨by rfl, ?_⟩) hHeld ?_
                  rotate_left
                  · (intro w hSw; (try dsimp only at hSw); go_simp) <;> with_reducible rfl
                  try simp only [Act.put, List.setIfInBounds_toArray, List.set_cons_zero, List.set_cons_succ]
                  refine wpAnyH_take (i := 4) (oi := ({ dst := some 61, op := Op.load 22 (Operand.tmp 60), type := 22, pos := "ref.go:100", after := #[{ on := 3, ground := Ground.data }, { on := 2, ground := Ground.guard }], guard := some (2, false) } : Oper)) (v := ?_) rfl (by kernel_rfl) (by kernel_rfl) (by kernel_rfl) (fun _ _ _ h => h) (Or.inl ⟨by rfl, ?_⟩) hHeld ?_
                  rotate_left
                  · (intro w hSw; (try dsimp only at hSw); go_simp) <;> with_reducible rfl
                  try simp only [Act.put, List.setIfInBounds_toArray, List.set_cons_zero, List.set_cons_succ]
                  refine wpAnyH_take (i := 5) (oi := ({ dst := some 62, op := Op.fieldAddr 42 (Operand.tmp 7) 0, type := 0, pos := "ref.go:100", after := #[{ on := 2, ground := Ground.guard }], guard := some (2, false) } : Oper)) (v := ?_) rfl (by kernel_rfl) (by kernel_rfl) (by kernel_rfl) (fun _ _ _ h => h) (Or.inl ⟨by rfl, ?_⟩) hHeld ?_
                  rotate_left
                  · (intro w hSw; (try dsimp only at hSw); go_simp) <;> with_reducible rfl
                  try simp only [Act.put, List.setIfInBounds_toArray, List.set_cons_zero, List.set_cons_succ]
                  refine wpAnyH_take (i := 6) (oi := ({ dst := some 63, op := Op.load 3 (Operand.tmp 62), type := 3, pos := "ref.go:100", after := #[{ on := 5, ground := Ground.data }, { on := 2, ground := Ground.guard }], guard := some (2, false) } : Oper)) (v := ?_) rfl (by kernel_rfl) (by kernel_rfl) (by kernel_rfl) (fun _ _ _ h => h) (Or.inl ⟨by rfl, ?_⟩) hHeld ?_
                  rotate_left
                  · (intro w hSw; (try dsimp only at hSw); go_simp) <;> with_reducible rfl
                  try simp only [Act.put, List.setIfInBounds_toArray, List.set_cons_zero, List.set_cons_succ]
                  refine wpAnyH_take (i := 7) (oi := ({ dst := some 64, op := Op.indexAddr 22 (Operand.tmp 61) (Operand.tmp 63), type := 0, pos := "ref.go:100", after := #[{ on := 4, ground := Ground.data }, { on := 6, ground := Ground.data }, { on := 2, ground := Ground.guard }], guard := some (2, false) } : Oper)) (v := ?_) rfl (by kernel_rfl) (by kernel_rfl) (by kernel_rfl) (fun _ _ _ h => h) (Or.inl ⟨by rfl, ?_⟩) hHeld ?_
                  rotate_left
                  · (intro w hSw; (try dsimp only at hSw); go_simp) <;> with_reducible rfl
                  try simp only [Act.put, List.setIfInBounds_toArray, List.set_cons_zero, List.set_cons_succ]
                  refine wpAnyH_take (i := 8) (oi := ({ dst := some 65, op := Op.fieldAddr 45 (Operand.tmp 64) 0, type := 0, pos := "ref.go:100", after := #[{ on := 7, ground := Ground.data }, { on := 2, ground := Ground.guard }], guard := some (2, false) } : Oper)) (v := ?_) rfl (by kernel_rfl) (by kernel_rfl) (by kernel_rfl) (fun _ _ _ h => h) (Or.inl ⟨by rfl, ?_⟩) hHeld ?_
                  rotate_left
                  · (intro w hSw; (try dsimp only at hSw); go_simp) <;> with_reducible rfl
                  try simp only [Act.put, List.setIfInBounds_toArray, List.set_cons_zero, List.set_cons_succ]
                  refine wpAnyH_take (i := 9) (oi := ({ dst := some 66, op := Op.load 3 (Operand.tmp 65), type := 3, pos := "ref.go:100", after := #[{ on := 8, ground := Ground.data }, { on := 2, ground := Ground.guard }], guard := some (2, false) } : Oper)) (v := ?_) rfl (by kernel_rfl) (by kernel_rfl) (by kernel_rfl) (fun _ _ _ h => h) (Or.inl ⟨by rfl, ?_⟩) hHeld ?_
                  rotate_left
                  · (intro w hSw; (try dsimp only at hSw); go_simp) <;> with_reducible rfl
                  try simp only [Act.put, List.setIfInBounds_toArray, List.set_cons_zero, List.set_cons_succ]
                  refine wpAnyH_take (i := 10) (oi := ({ dst := some 67, op := Op.fieldAddr 24 (Operand.tmp 2) 2, type := 0, pos := "ref.go:100", after := #[{ on := 2, ground := Ground.guard }], guard := some (2, false) } : Oper)) (v := ?_) rfl (by kernel_rfl) (by kernel_rfl) (by kernel_rfl) (fun _ _ _ h => h) (Or.inl ⟨by rfl, ?_⟩) hHeld ?_
                  rotate_left
                  · (intro w hSw; (try dsimp only at hSw); go_simp) <;> with_reducible rfl
                  try simp only [Act.put, List.setIfInBounds_toArray, List.set_cons_zero, List.set_cons_succ]
                  refine wpAnyH_take (i := 11) (oi := ({ dst := some 68, op := Op.load 3 (Operand.tmp 67), type := 3, pos := "ref.go:100", after := #[{ on := 10, ground := Ground.data }, { on := 2, ground := Ground.guard }], guard := some (2, false) } : Oper)) (v := ?_) rfl (by kernel_rfl) (by kernel_rfl) (by kernel_rfl) (fun _ _ _ h => h) (Or.inl ⟨by rfl, ?_⟩) hHeld ?_
                  rotate_left
                  · (intro w hSw; (try dsimp only at hSw); go_simp) <;> with_reducible rfl
                  try simp only [Act.put, List.setIfInBounds_toArray, List.set_cons_zero, List.set_cons_succ]
                  refine wpAnyH_take (i := 12) (oi := ({ dst := some 69, op := Op.binOp BinOp.eql 3 (Operand.tmp 66) (Operand.tmp 68) 3, type := 4, pos := "ref.go:100", after := #[{ on := 9, ground := Ground.data }, { on := 11, ground := Ground.data }, { on := 2, ground := Ground.guard }], guard := some (2, false) } : Oper)) (v := ?_) rfl (by kernel_rfl) (by kernel_rfl) (by kernel_rfl) (fun _ _ _ h => h) (Or.inl ⟨by rfl, ?_⟩) hHeld ?_
                  rotate_left
                  · (intro w hSw; (try dsimp only at hSw); go_simp) <;> with_reducible rfl
                  try simp only [Act.put, List.setIfInBounds_toArray, List.set_cons_zero, List.set_cons_succ]
                  refine wpAnyH_take (i := 13) (oi := ({ dst := some 70, op := Op.move (Operand.tmp 69), type := 4, pos := "ref.go:100", after := #[{ on := 12, ground := Ground.data }, { on := 2, ground := Ground.chain }, { on := 2, ground := Ground.guard }], guard := some (2, false) } : Oper)) (v := ?_) rfl (by kernel_rfl) (by kernel_rfl) (by kernel_rfl) (fun _ _ _ h => h) (Or.inl ⟨by rfl, ?_⟩) hHeld ?_
                  rotate_left
                  · (intro w hSw; (try dsimp only at hSw); go_simp) <;> with_reducible rfl
                  try simp only [Act.put, List.setIfInBounds_toArray, List.set_cons_zero, List.set_cons_succ]
                  refine wpAnyH_take (i := 14) (oi := ({ dst := some 71, op := Op.fieldAddr 42 (Operand.tmp 7) 2, type := 0, pos := "ref.go:100", after := #[{ on := 13, ground := Ground.guard }], guard := some (13, true) } : Oper)) (v := undef) rfl (by kernel_rfl) (by kernel_rfl) (by kernel_rfl) (fun _ _ _ h => h) (Or.inr ⟨by rfl, rfl⟩) hHeld ?_
                  try simp only [Act.put, List.setIfInBounds_toArray, List.set_cons_zero, List.set_cons_succ]
                  refine wpAnyH_take (i := 15) (oi := ({ dst := some 72, op := Op.load 3 (Operand.tmp 71), type := 3, pos := "ref.go:100", after := #[{ on := 14, ground := Ground.data }, { on := 13, ground := Ground.guard }], guard := some (13, true) } : Oper)) (v := undef) rfl (by kernel_rfl) (by kernel_rfl) (by kernel_rfl) (fun _ _ _ h => h) (Or.inr ⟨by rfl, rfl⟩) hHeld ?_
                  try simp only [Act.put, List.setIfInBounds_toArray, List.set_cons_zero, List.set_cons_succ]
                  refine wpAnyH_take (i := 16) (oi := ({ dst := some 73, op := Op.binOp BinOp.eql 3 (Operand.tmp 72) (Operand.const (Value.int IntKind.i64 0)) 3, type := 4, pos := "ref.go:100", after := #[{ on := 15, ground := Ground.data }, { on := 13, ground := Ground.guard }], guard := some (13, true) } : Oper)) (v := undef) rfl (by kernel_rfl) (by kernel_rfl) (by kernel_rfl) (fun _ _ _ h => h) (Or.inr ⟨by rfl, rfl⟩) hHeld ?_
                  try simp only [Act.put, List.setIfInBounds_toArray, List.set_cons_zero, List.set_cons_succ]
                  refine wpAnyH_take (i := 17) (oi := ({ dst := some 74, op := Op.pick (Operand.tmp 70) (Operand.tmp 73) (Operand.const (Value.bool false)), type := 4, pos := "ref.go:100", after := #[{ on := 13, ground := Ground.data }, { on := 16, ground := Ground.data }, { on := 2, ground := Ground.guard }], guard := some (2, false) } : Oper)) (v := ?_) rfl (by kernel_rfl) (by kernel_rfl) (by kernel_rfl) (fun _ _ _ h => h) (Or.inl ⟨by rfl, ?_⟩) hHeld ?_
                  rotate_left
                  · (intro w hSw; (try dsimp only at hSw); go_simp) <;> with_reducible rfl
                  try simp only [Act.put, List.setIfInBounds_toArray, List.set_cons_zero, List.set_cons_succ]
                  refine wpAnyH_take (i := 18) (oi := ({ dst := some 75, op := Op.pick (Operand.tmp 59) (Operand.const (Value.bool true)) (Operand.tmp 74), type := 4, pos := "ref.go:100", after := #[{ on := 2, ground := Ground.data }, { on := 17, ground := Ground.data }], guard := none } : Oper)) (v := ?_) rfl (by kernel_rfl) (by kernel_rfl) (by kernel_rfl) (fun _ _ _ h => h) (Or.inl ⟨by rfl, ?_⟩) hHeld ?_
                  rotate_left
                  · (intro w hSw; (try dsimp only at hSw); go_simp) <;> with_reducible rfl
                  try simp only [Act.put, List.setIfInBounds_toArray, List.set_cons_zero, List.set_cons_succ]
                  refine wpAnyH_take (i := 19) (oi := ({ dst := some 76, op := Op.indexAddr 68 (Operand.tmp 5) (Operand.const (Value.int IntKind.i64 16)), type := 0, pos := "ref.go:100", after := #[{ on := 0, ground := Ground.phase }, { on := 1, ground := Ground.phase }, { on := 2, ground := Ground.phase }, { on := 3, ground := Ground.phase }, { on := 4, ground := Ground.phase }, { on := 5, ground := Ground.phase }, { on := 6, ground := Ground.phase }, { on := 7, ground := Ground.phase }, { on := 8, ground := Ground.phase }, { on := 9, ground := Ground.phase }, { on := 10, ground := Ground.phase }, { on := 11, ground := Ground.phase }, { on := 12, ground := Ground.phase }, { on := 13, ground := Ground.phase }, { on := 14, ground := Ground.phase }, { on := 15, ground := Ground.phase }, { on := 16, ground := Ground.phase }, { on := 17, ground := Ground.phase }, { on := 18, ground := Ground.phase }], guard := none } : Oper)) (v := ?_) rfl (by kernel_rfl) (by kernel_rfl) (by kernel_rfl) (fun _ _ _ h => h) (Or.inl ⟨by rfl, ?_⟩) hHeld ?_
                  rotate_left
                  · (intro w hSw; (try dsimp only at hSw); go_simp) <;> with_reducible rfl
                  try simp only [Act.put, List.setIfInBounds_toArray, List.set_cons_zero, List.set_cons_succ]
                  refine wpAnyH_ready (rs := [20]) (by kernel_rfl) (by simp) ?_
                  refine AllReadyH.cons (o := ({ dst := none, op := Op.store 4 (Operand.tmp 76) (Operand.tmp 75), type := 0, pos := "ref.go:100", after := #[{ on := 19, ground := Ground.data }, { on := 18, ground := Ground.data }, { on := 13, ground := Ground.chain }, { on := 0, ground := Ground.phase }, { on := 1, ground := Ground.phase }, { on := 2, ground := Ground.phase }, { on := 3, ground := Ground.phase }, { on := 4, ground := Ground.phase }, { on := 5, ground := Ground.phase }, { on := 6, ground := Ground.phase }, { on := 7, ground := Ground.phase }, { on := 8, ground := Ground.phase }, { on := 9, ground := Ground.phase }, { on := 10, ground := Ground.phase }, { on := 11, ground := Ground.phase }, { on := 12, ground := Ground.phase }, { on := 13, ground := Ground.phase }, { on := 14, ground := Ground.phase }, { on := 15, ground := Ground.phase }, { on := 16, ground := Ground.phase }, { on := 17, ground := Ground.phase }, { on := 18, ground := Ground.phase }], guard := none } : Oper)) rfl (fun K hK => ?_) (AllReadyH.nil)
                  go_simp
                  refine hK.out _ _ (HSs.out false) (fun hHeld => ?_)
                  clear hK K
                  try simp only [Act.put, List.setIfInBounds_toArray, List.set_cons_zero, List.set_cons_succ]
                  refine wpAnyH_done (by kernel_rfl) ?_ _
                  go_wp2_with fail
                  go_roundw
                  case rel => exact ⟨k + 1, _, by omega, by go_num, by rw [HZ2.out]; exact HV.out, .inl HOk.out, HZn.out false, HKn.out _, HBn.out _⟩
                  case measure => simp [intOf]; omega
            · have hd9 : d < ps[i].right.length := by omega
              have HBn := Lib.hid (bitN_some (g := ⟨t, n, s, ps⟩) (f := xf) h3 (List.getElem?_eq_getElem hd9))
              have HSy := Lib.hid (HOki.out.2.2.2 _ (List.getElem_mem hd9))
              have HRs := Lib.hid (fun (wx : World) (hb : Bl w wx) => by
                obtain ⟨bp, op, Ax, cx, e, hbp, hrx, q0, q1⟩ := HRow.out wx hb
                obtain ⟨bs, os, e2, hbs, r0, r1⟩ := hrx.sym hd9
                exact (⟨bp, op, cx, bs, os, e, e2 ▸ q1, r0, r1⟩ : ∃ bp op cx bs os, A = some ⟨bp, op, none⟩ ∧ wx.cell? ⟨bp, op + i * 2 + 1, none⟩ = some (.slice (some ⟨bs, os, none⟩) ps[i].right.length cx) ∧ wx.cell? ⟨bs, os + d * 2, none⟩ = some (.bool ps[i].right[d].non) ∧ wx.cell? ⟨bs, os + d * 2 + 1, none⟩ = some (.int .i64 ps[i].right[d].n)))
              rw [decide_eq_false hw] at HWq
              have i3 : (0 : Int) ≤ (d : Int) := by omega
              have i4 : (d : Int) < (ps[i].right.length : Int) := by omega
              clear hw h3 h4 HRow HOki
              generalize ps[i].right[d] = sy at *
              clear hd9
              generalize ps[i].right.length = rl at *
              obtain ⟨sb, sn⟩ := sy
              simp only at HBn HSy HRs
              go_wp2_with fail
              refine HWq.out.mono ?_
              rintro e w5 ⟨rfl, hb5⟩
              have HK5 := Lib.hid (HKd.out.bl hb5)
              have HZ5 := Lib.hid (HZd.out.bl hb5)
              have HX5 := Lib.hid (HXd.out.bl hb5)
              have HBw5 := Lib.hid (HBwd.out.trans hb5)
              clear hb5 k0 k1 k2 k3 x0 x1 x2 kl xl HKd HZd HXd HBwd HWq
              obtain ⟨bp, op, cx, bs, os, rfl, q1, r0, r1⟩ := HRs.out w5 HBw5.out
              have k3 : w5.cell? ⟨w.heap.size, 3, none⟩ = some (.slice (some ⟨bp, op, none⟩) len c) := HK5.out.cell 3
              have x0 : w5.cell? ⟨xb, 0, none⟩ = some (.int .i64 (i : Int)) := HX5.out.cell 0
              have x1 : w5.cell? ⟨xb, 1, none⟩ = some (.int .i64 (d : Int)) := HX5.out.cell 1
              cases sb with
              | true =>
                have HE : Hid (z' = z) := by show _ = _; rw [HSn.out, HBn.out, if_pos rfl, Nat.or_zero]
                go_upto_region 9 with fail
                go_big_quiet (fail)
                go_wp2_with fail
                go_roundw
                case rel => exact ⟨k + 1, f, by omega, by go_num, by rw [HZ2.out, HE.out]; exact HF.out, .inl HOk.out, HZ5.out, HK5.out, HBw5.out.drewN _⟩
                case measure => simp [intOf]; omega
              | false =>
                have hs1 : 0 ≤ sn := HSy.out.1
                have hs2 : sn < t := HSy.out.2.2 rfl
                obtain ⟨m, rfl⟩ : ∃ m : Nat, sn = (m : Int) := ⟨sn.toNat, by omega⟩
                have hm16 : m < 16 := by omega
                have HE : Hid (z' = z ||| 2 ^ m) := by show _ = _; rw [HSn.out, HBn.out, if_neg (by simp)]; simp
                have HV : Hid (BitsOf (upd f m true) z') := by show BitsOf _ _; rw [HE.out]; exact bits_put HF.out
                have m0 : (0 : Int) ≤ (m : Int) := by omega
                have m1 : (m : Int) < 32 := by omega
                clear hs1 hs2 HSy HBn HSn
                go_upto_region 9 with fail
                go_big_quiet (fail)
                have HZ6 : Hid (Bk (w5.drewN nq) (w.heap.size + 1) 68 (bls 32 f).toArray) := HZ5.out
                have HK6 : Hid (Bk (w5.drewN nq) w.heap.size 24 #[.int .i64 t, .int .i64 n, .int .i64 s, .slice (some ⟨bp, op, none⟩) len c]) := HK5.out
                have HX6 : Hid (Bk (w5.drewN nq) xb 42 #[.int .i64 (i : Int), .int .i64 (d : Int), .int .i64 xf]) := HX5.out
                have HBw6 : Hid (Bl w (w5.drewN nq)) := HBw5.out.drewN _
                have q1b : (w5.drewN nq).cell? ⟨bp, op + i * 2 + 1, none⟩ = some (.slice (some ⟨bs, os, none⟩) rl cx) := q1
                have r1b : (w5.drewN nq).cell? ⟨bs, os + d * 2 + 1, none⟩ = some (.int .i64 (m : Int)) := r1
                clear k3 x0 x1 q1 r0 r1 HZ5 HK5 HX5 HBw5
                generalize w5.drewN nq = w6 at *
                have k3 : w6.cell? ⟨w.heap.size, 3, none⟩ = some (.slice (some ⟨bp, op, none⟩) len c) := HK6.out.cell 3
                have x0 : w6.cell? ⟨xb, 0, none⟩ = some (.int .i64 (i : Int)) := HX6.out.cell 0
                have x1 : w6.cell? ⟨xb, 1, none⟩ = some (.int .i64 (d : Int)) := HX6.out.cell 1
                have zcd : w6.drew.cell? ⟨w.heap.size + 1, m, none⟩ = some (.bool (f m)) := bls_cellR HZ6.out (by omega)
                have zf : w6.drew.frozen? ⟨w.heap.size + 1, m, none⟩ = false := HZ6.out.free m
                have zl : w.heap.size + 1 < w6.drew.heap.size := HZ6.out.lt
                have HZ6d : Hid (Bk w6.drew (w.heap.size + 1) 68 (bls 32 f).toArray) := HZ6.out
                have HK6d : Hid (Bk w6.drew w.heap.size 24 #[.int .i64 t, .int .i64 n, .int .i64 s, .slice (some ⟨bp, op, none⟩) len c]) := HK6.out
                have HZn := Lib.hid (bls_putR (m := m) (x := true) HZ6d.out)
                have HKn := Lib.hid (HK6d.out.far (p := ⟨w.heap.size + 1, m, none⟩) (Nat.ne_of_lt (Nat.lt_succ_self _)) (.bool true))
                have HBn := Lib.hid (Bl.fr HBw6.out.drew ((Fr.refl (fun k => k = w.heap.size + 1) w6.drew).own m (.bool true)) (fun i hi e => by omega))
                clear HZ6 HK6 HX6 HBw6 HZ6d HK6d
                go_upto_region 10 with fail
                go_still_tail 13, (by kernel_rfl)
                change wpList _ _ _ _ _ w6.drew
                clear k3 x0 x1 q1b r1b
                generalize w6.drew = w7 at *
                go_wp2_with fail
                go_roundw
                case rel => exact ⟨k + 1, _, by omega, by go_num, by rw [HZ2.out]; exact HV.out, .inl HOk.out, HZn.out, HKn.out, HBn.out⟩
                case measure => simp [intOf]; omega
end Go.Proofs.Ytckckejgocbkkaa
