/- FollowClosed's contract: the sets are closed. -/
import Derived.Test.YtgmnokmchjeflaaFoAwake
import Derived.Test.YtgmnokmchjeflaaFoClo
import Derived.Test.YtgmnokmchjeflaaKLarge
import Derived.Test.YtgmnokmchjeflaaGRRight
import Derived.Deep.RegionHeld3
import Derived.BigQuiet
namespace Go.Proofs.Ytgmnokmchjeflaa
open Go.RowKit

set_option maxRecDepth 100000 in
set_option maxHeartbeats 8000000 in
theorem followClosed_any (t n s : Int) (A : Option Addr) (len c : Nat) (ps : List Gr.Pr) (W : World)
    (hlen : len = ps.length) (hmax : len ≤ 9223372036854775807) (hr : PrsC W W.heap.size A ps) :
    Calls Try.prog 4 #[.agg #[.int .i64 t, .int .i64 n, .int .i64 s, .slice A len c]] W fun e w' => e = .returned (.bool true) ∧ Bl W w' := by
  have HL := Lib.hid hlen; clear hlen
  have HP : Hid (∀ w', Bl W w' → PrsC w' w'.heap.size A ps) := fun _ hb => (hr.bl (Nat.le_refl _) hb).more hb.size
  clear hr
  have HB0 : Hid (Bl W (W.alloc (.cells #[.int .i64 t, .int .i64 n, .int .i64 s, .slice A len c] 24))) := (Bl.refl W).alloc _
  have HK0 := Lib.hid (Bk.new W 24 #[.int .i64 t, .int .i64 n, .int .i64 s, .slice A len c])
  go_enter Try.func4, Try.ntmps4
  go_wp2_with fail
  refine (awake12_any _).mono ?_
  rintro e w1 ⟨rfl, hb1⟩
  have HB1 := Lib.hid (HB0.out.trans hb1)
  have HK1 := Lib.hid (HK0.out.bl hb1)
  clear hb1 HB0 HK0
  have k0 : w1.cell? ⟨W.heap.size, 0, none⟩ = some (.int .i64 t) := HK1.out.cell 0
  have k1 : w1.cell? ⟨W.heap.size, 1, none⟩ = some (.int .i64 n) := HK1.out.cell 1
  have k2 : w1.cell? ⟨W.heap.size, 2, none⟩ = some (.int .i64 s) := HK1.out.cell 2
  have k3 : w1.cell? ⟨W.heap.size, 3, none⟩ = some (.slice A len c) := HK1.out.cell 3
  go_wp2_with fail
  refine (large9_any t n s A len c ps _ w1.heap.size HL.out hmax (HP.out _ HB1.out).prs (Nat.le_refl _)).mono ?_
  rintro e w2 ⟨rfl, hb2⟩
  have HB2 := Lib.hid (HB1.out.trans hb2)
  have HK2 := Lib.hid (HK1.out.bl hb2)
  clear hb2 k0 k1 k2 k3 HB1 HK1
  cases hlg : lgB ps with
  | true =>
    go_wp2_with fail
    go_ret
    exact ⟨rfl, HB2.out⟩
  | false =>
  clear hlg
  have k0 : w2.cell? ⟨W.heap.size, 0, none⟩ = some (.int .i64 t) := HK2.out.cell 0
  have k1 : w2.cell? ⟨W.heap.size, 1, none⟩ = some (.int .i64 n) := HK2.out.cell 1
  have k2 : w2.cell? ⟨W.heap.size, 2, none⟩ = some (.int .i64 s) := HK2.out.cell 2
  have k3 : w2.cell? ⟨W.heap.size, 3, none⟩ = some (.slice A len c) := HK2.out.cell 3
  go_wp2_with fail
  refine (rright_any t n s A len c ps _ w2.heap.size HL.out hmax (HP.out _ HB2.out).prs (Nat.le_refl _)).mono ?_
  rintro e w3 ⟨rfl, hb3⟩
  have HB3 := Lib.hid (HB2.out.trans hb3)
  have HK3 := Lib.hid (HK2.out.bl hb3)
  clear hb3 k0 k1 k2 k3 HB2 HK2
  cases hok : okB ⟨t, n, s, ps⟩ with
  | false =>
    go_wp2_with fail
    go_ret
    exact ⟨rfl, HB3.out⟩
  | true =>
  obtain ⟨n1, n2, n3⟩ := ok_nons hok
  obtain ⟨t0, ht16, _⟩ := (okB_iff _).1 hok
  have t0 : 0 ≤ t := t0
  have ht16 : t ≤ 16 := ht16
  obtain ⟨N, rfl⟩ : ∃ N : Nat, n = (N : Int) := ⟨n.toNat, by omega⟩
  obtain ⟨T, rfl⟩ : ∃ T : Nat, t = (T : Int) := ⟨t.toNat, by omega⟩
  have HOk0 : Hid (Gr.Ok ⟨(T : Int), (N : Int), s, ps⟩) := (okB_iff _).1 hok
  have hst := Fi.start_lt HOk0.out
  obtain ⟨S, rfl⟩ : ∃ S : Nat, s = (S : Int) := ⟨s.toNat, by have h5 : (0 : Int) ≤ s := HOk0.out.2.2.2.2.1; omega⟩
  have hS : S < N := hst
  have HOK := Lib.hid hok
  have HOk : Hid (Gr.Ok ⟨(T : Int), (N : Int), (S : Int), ps⟩) := (okB_iff _).1 hok
  have HFi := Lib.hid (followsOf_ok hok)
  have hlx60 : len ≤ 60 := by have := HL.out; omega
  have HEnd := Lib.hid (bit_one (Fi.numW_lt ⟨(T : Int), (N : Int), (S : Int), ps⟩ S) (clo_end HOk.out))
  have HTm : Hid (∀ j, j < N → ∀ b, ((Fi.numW ⟨(T : Int), (N : Int), (S : Int), ps⟩).getD j 0).testBit b = true → b < T ∨ b = 16) := fun j hj b h => clo_terms (T := T) HOk.out rfl (n := j) hj b h
  have HWt := Lib.hid (Fi.numW_lt ⟨(T : Int), (N : Int), (S : Int), ps⟩)
  have HWl : Hid ((Fi.numW ⟨(T : Int), (N : Int), (S : Int), ps⟩).length = N) := Fi.numW_len _
  clear hok hst HOk0
  have k0 : w3.cell? ⟨W.heap.size, 0, none⟩ = some (.int .i64 (T : Int)) := HK3.out.cell 0
  have k1 : w3.cell? ⟨W.heap.size, 1, none⟩ = some (.int .i64 (N : Int)) := HK3.out.cell 1
  have k2 : w3.cell? ⟨W.heap.size, 2, none⟩ = some (.int .i64 (S : Int)) := HK3.out.cell 2
  have k3 : w3.cell? ⟨W.heap.size, 3, none⟩ = some (.slice A len c) := HK3.out.cell 3
  go_wp2_with fail
  refine (follow_any (T : Int) (N : Int) (S : Int) A len c ps _ w3.heap.size HL.out hmax (HP.out _ HB3.out) (Nat.le_refl _)).mono ?_
  intro e w4 h4
  obtain ⟨A4, c4, he4, hr4, hb4⟩ := h4.lit (k := N) HFi.out HWl.out
  subst he4
  have HN4 := Lib.hid hr4
  have HB4 := Lib.hid (HB3.out.trans hb4)
  have HK4 := Lib.hid (HK3.out.bl hb4)
  clear h4 hr4 hb4 k0 k1 k2 k3 HB3 HK3
  obtain ⟨b4, o4, rfl, hb4, hc4⟩ := HN4.out.u32 (j := S) (by rw [HWl.out]; exact hS)
  have HU : Hid (∀ w', Bl w4 w' → ∀ j, j < N → w'.cell? ⟨b4, o4 + j, none⟩ = some (.int .u32 ((Fi.numW ⟨(T : Int), (N : Int), (S : Int), ps⟩).getD j 0 : Int))) := fun w' hb j hj => by
    obtain ⟨b5, o5, e5, hb5, hc5⟩ := HN4.out.u32 (j := j) (by rw [HWl.out]; exact hj)
    injection e5 with e5
    injection e5 with e6 e7
    subst e6 e7
    exact (Below.cell hb (p := ⟨b4, o4 + j, none⟩) hb5).trans hc5
  have k1 : w4.cell? ⟨W.heap.size, 1, none⟩ = some (.int .i64 (N : Int)) := HK4.out.cell 1
  have k2 : w4.cell? ⟨W.heap.size, 2, none⟩ = some (.int .i64 (S : Int)) := HK4.out.cell 2
  have k3 : w4.cell? ⟨W.heap.size, 3, none⟩ = some (.slice A len c) := HK4.out.cell 3
  have klt : W.heap.size < w4.heap.size := HK4.out.lt
  have hS0 : (0 : Int) ≤ (S : Int) := by omega
  have hS1 : (S : Int) < (N : Int) := by omega
  have hend : bits .and .u32 ((((Fi.numW ⟨(T : Int), (N : Int), (S : Int), ps⟩).getD S 0 : Nat) : Int) / 2 ^ 16) 1 = 1 := HEnd.out
  have HB4n := Lib.hid hb4
  generalize (Fi.numW ⟨(T : Int), (N : Int), (S : Int), ps⟩).getD S 0 = x0 at hc4 hend
  have hend2 : bits .and .u32 ((x0 : Int) / 65536) 1 = 1 := hend
  go_wp2_with fail
  clear hc4 hend hend2 k1 k2 k3 klt hb4
  go_loopw [41] (fun v wr => ∃ k : Nat, k ≤ len ∧ v = .int .i64 k ∧ Hid (Bl w4 wr)) (fun v _ => len - (intOf v).toNat)
  case atStart => exact ⟨0, Nat.zero_le _, rfl, Bl.refl _⟩
  case round =>
    obtain ⟨k, hk, rfl, HBk⟩ := hrel
    obtain ⟨wk, rfl⟩ : ∃ wk : World, wk = wr := ⟨_, rfl⟩
    by_cases hlt : k < len
    · have hj : k < ps.length := by have := HL.out; omega
      have HBw := Lib.hid (HB4.out.trans HBk.out)
      obtain ⟨b, off, Ax, cx, rfl, hbB, hrx, hc0, hc1, hcx, hcm⟩ := (HP.out _ HBw.out).at_ hj
      have HX : Hid (∀ w', Bl W w' → Rd w' w'.heap.size Ax (syRow ps[k].right)) := by
        obtain ⟨b2, off2, Ax2, cx2, e2, _, hr2, _, h12, _⟩ := (HP.out _ (Bl.refl W)).at_ hj
        injection e2 with e2
        injection e2 with e3 e4
        subst e3 e4
        have h13 := (Below.cell HBw.out (p := ⟨b, off + k * 2 + 1, none⟩) (by have := World.block_lt_of_cell? _ _ h12; exact this)).trans h12
        rw [h13] at hc1
        injection hc1 with hc1
        injection hc1 with hc1 _ _
        subst hc1
        exact fun _ hb => rd_on hr2 hb
      have HMay := Lib.hid (fun q => mayOf_drop HOK.out (p := ps[k]) (List.getElem_mem hj) q)
      have HClo := Lib.hid (fun (q : Nat) (y : Gr.Sy) => clo_first HOk.out (p := ps[k]) (k := q) (s := y) (List.getElem_mem hj))
      have hlm : ps[k].left.toNat < N := (Fi.ok_nums HOk.out (List.getElem_mem hj)).1
      obtain ⟨⟨o1, o2⟩, o3, o4'⟩ := ok_syms HOK.out hj
      have HSy : Hid (Fi.SyOk N ps[k].right) := Fi.syOk_prod HOk.out (List.getElem_mem hj)
      have hme : ps[k].left = ((ps[k].left.toNat : Nat) : Int) := by omega
      rw [hme] at hc0
      clear hrx o1 o2 o4' hme
      generalize ps[k].left.toNat = m at *
      generalize ps[k].right = right at *
      have hr8 : right.length ≤ 8 := o3
      have HAl : Hid (Bl wk (wk.alloc (.cells #[.int .i64 m, .slice Ax right.length cx] 37))) := (Bl.refl wk).alloc _
      have HK1 := Lib.hid (Bk.new wk 37 #[.int .i64 m, .slice Ax right.length cx])
      clear hj o3
      go_wp2_with fail
      generalize hwp : wk.alloc (.cells #[.int .i64 m, .slice Ax right.length cx] 37) = wp at HAl HK1 ⊢
      have HWp := Lib.hid hwp
      clear hwp
      have HBp := Lib.hid (HBk.out.trans HAl.out)
      go_loopw [48] (fun v wr => ∃ j : Nat, j ≤ right.length ∧ v = .int .i64 j ∧ Hid (Bl wp wr)) (fun v _ => right.length - (intOf v).toNat)
      case atStart => exact ⟨0, Nat.zero_le _, rfl, Bl.refl _⟩
      case round =>
        obtain ⟨j, hj, rfl, HBj⟩ := hrel
        by_cases hjl : j < right.length
        · have HBr := Lib.hid (HB4.out.trans (HBp.out.trans HBj.out))
          obtain ⟨bs, os, rfl, hbs, hs0, hs1⟩ := (HX.out _ HBr.out).sym hjl
          have hgj : right[j]? = some right[j] := List.getElem?_eq_getElem hjl
          have hsn := (HSy.out _ (List.getElem_mem hjl)).1
          have hsm := (HSy.out _ (List.getElem_mem hjl)).2.1
          have HCl := Lib.hid (HClo.out j _ hgj)
          clear hgj
          generalize right[j] = sy at *
          obtain ⟨yn, yv⟩ := sy
          simp only at hs0 hs1 hsn hsm
          obtain ⟨nv, rfl⟩ : ∃ nv : Nat, yv = (nv : Int) := ⟨yv.toNat, by omega⟩
          clear hsn
          cases yn with
          | false =>
            have HBx := Lib.hid (HBj.out.alloc (.cells #[.bool false, .int .i64 nv] 39))
            go_wp2_with fail
            go_roundw
            case rel => exact ⟨j + 1, by omega, by go_num, HBx.out⟩
            case measure => simp [intOf]; omega
          | true =>
            have hm : nv < N := by have := hsm rfl; omega
            obtain ⟨cl1, cl2⟩ := HCl.out rfl
            have cl1 : ∀ t, (Fi.ofN (Fi.numR ⟨(T : Int), (N : Int), (S : Int), ps⟩) (Fi.nulls ⟨(T : Int), (N : Int), (S : Int), ps⟩) (right.drop (j + 1))).testBit t = true → ((Fi.numW ⟨(T : Int), (N : Int), (S : Int), ps⟩).getD nv 0).testBit t = true := cl1
            have cl2 : Fi.allNull (Fi.nulls ⟨(T : Int), (N : Int), (S : Int), ps⟩) (right.drop (j + 1)) = true → ∀ t, ((Fi.numW ⟨(T : Int), (N : Int), (S : Int), ps⟩).getD m 0).testBit t = true → ((Fi.numW ⟨(T : Int), (N : Int), (S : Int), ps⟩).getD nv 0).testBit t = true := cl2
            have hnl : Fi.ofN (Fi.numR ⟨(T : Int), (N : Int), (S : Int), ps⟩) (Fi.nulls ⟨(T : Int), (N : Int), (S : Int), ps⟩) (right.drop (j + 1)) < 4294967296 := Fi.ofN_lt (Fi.numR_lt _) fun x hx e => (HSy.out x (List.mem_of_mem_drop hx)).2.2 e
            have hmy := HMay.out (j + 1)
            have e1 := ofNum_yes hmy
            have e2 := ofAll_yes hmy
            have hxl : (right.drop (j + 1)).length = right.length - (j + 1) := List.length_drop ..
            have hrc : Rd wr wr.heap.size (if cx = j + 1 then some ⟨bs, os, none⟩ else (some (⟨bs, os, none⟩ : Addr)).map (·.add ((j + 1) * 2))) (syRow (right.drop (j + 1))) := (HX.out _ HBr.out).sy_cut hcx
            have hsl := fun (wx : World) => run_slice_tail (P := Try.prog) (t := 35) (e := 39) (size := 2) Try.underlying35 sy_size (some ⟨bs, os, none⟩) right.length cx (j + 1) ((j : Int) + 1) (by omega) (by omega) wx
            generalize (if cx = j + 1 then some (⟨bs, os, none⟩ : Addr) else (some (⟨bs, os, none⟩ : Addr)).map (·.add ((j + 1) * 2))) = Ay at hrc hsl
            have HOn := Lib.hid e1
            have HOa := Lib.hid e2
            have HXl := Lib.hid hxl.symm
            have hand1 := andNot_zero hnl (HWt.out nv) cl1
            have HA2 := Lib.hid (fun h => andNot_zero (HWt.out m) (HWt.out nv) (cl2 h))
            have HUn := Lib.hid (fun w' hb => HU.out w' hb nv hm)
            have HUm := Lib.hid (fun w' hb => HU.out w' hb m hlm)
            have hwr : IntKind.i64.wrap ((j : Int) + 1) = (j : Int) + 1 := by simp [IntKind.wrap, IntKind.bits, IntKind.signed]; omega
            clear hmy e1 e2 hxl HMay HClo HCl cl1 cl2 hnl
            generalize right.drop (j + 1) = rest at *
            generalize Fi.ofN (Fi.numR ⟨(T : Int), (N : Int), (S : Int), ps⟩) (Fi.nulls ⟨(T : Int), (N : Int), (S : Int), ps⟩) rest = num at *
            generalize Fi.allNull (Fi.nulls ⟨(T : Int), (N : Int), (S : Int), ps⟩) rest = all at *
            generalize (Fi.numW ⟨(T : Int), (N : Int), (S : Int), ps⟩).getD nv 0 = xn at *
            generalize (Fi.numW ⟨(T : Int), (N : Int), (S : Int), ps⟩).getD m 0 = xm at *
            have HHand := Lib.hid hand1
            clear hand1
            have HBx := Lib.hid (HBj.out.alloc (.cells #[.bool true, .int .i64 nv] 39))
            have HS5 := Lib.hid (Bk.new wr 39 #[.bool true, .int .i64 nv])
            have HRc := Lib.hid (rd_on hrc ((Bl.refl wr).alloc (.cells #[.bool true, .int .i64 nv] 39)))
            clear hrc
            go_wp2_with fail
            generalize hw5 : wr.alloc (.cells #[.bool true, .int .i64 nv] 39) = w5 at HBx HS5 HRc ⊢
            have HW5 := Lib.hid hw5
            clear hw5
            have HB5 := Lib.hid (HBp.out.trans HBx.out)
            have HGc := Lib.hid (HK4.out.bl HB5.out)
            have HKc := Lib.hid (HK1.out.bl HBx.out)
            have tk1 : True := trivial
            go_region_held3 (fun w' => w'.cell? ⟨W.heap.size, 0, none⟩ = some (.int .i64 (T : Int)) ∧ w'.cell? ⟨W.heap.size, 1, none⟩ = some (.int .i64 (N : Int)) ∧ w'.cell? ⟨W.heap.size, 2, none⟩ = some (.int .i64 (S : Int)) ∧ w'.cell? ⟨W.heap.size, 3, none⟩ = some (.slice (some ⟨b, off, none⟩) len c) ∧ w'.cell? ⟨wk.heap.size, 1, none⟩ = some (.slice (some ⟨bs, os, none⟩) right.length cx)) (exact ⟨HGc.out.cell 0, HGc.out.cell 1, HGc.out.cell 2, HGc.out.cell 3, HKc.out.cell 1⟩) (first
              | (go_at_call 13; have _t := tk1; ((with_reducible refine (fof_any (T : Int) (N : Int) (S : Int) (some ⟨b, off, none⟩) len c ps Ay (right.length - (j + 1)) (cx - (j + 1)) rest _ w5.heap.size HL.out hmax (prs_drew (HP.out w5 (HB4.out.trans HB5.out)).prs) HXl.out (by omega) (rd_drew HRc.out) (Nat.le_refl _)).mono ?_); rintro e v1 ⟨rfl, hb1⟩; rw [HOn.out, HOa.out]; have HBc := Lib.hid (Bl.undrew hb1); have HGc := Lib.hid (HGc.out.bl HBc.out); have HKc := Lib.hid (HKc.out.bl HBc.out); clear hb1; clear tk1)))
            have HS6 := Lib.hid (HS5.out.bl HBc.out)
            have HBf := Lib.hid (HBx.out.trans HBc.out)
            have HB6 := Lib.hid (HBp.out.trans HBf.out)
            have ks1 : v1.cell? ⟨wr.heap.size, 1, none⟩ = some (.int .i64 nv) := HS6.out.cell 1
            have kp0 : v1.cell? ⟨wk.heap.size, 0, none⟩ = some (.int .i64 m) := HKc.out.cell 0
            have ks2 : wr.heap.size < v1.heap.size := HS6.out.lt
            have kp2 : wk.heap.size < v1.heap.size := HKc.out.lt
            have kun := HUn.out v1 HB6.out
            have kum := HUm.out v1 HB6.out
            have kub : b4 < v1.heap.size := World.block_lt_of_cell? _ _ kun
            have hn0 : (0 : Int) ≤ (nv : Int) := by omega
            have hn1 : (nv : Int) < (N : Int) := by omega
            have hm0 : (0 : Int) ≤ (m : Int) := by omega
            have hm1 : (m : Int) < (N : Int) := by omega
            have hand1 := HHand.out
            cases all with
            | false =>
              go_wp2_with fail
              go_quiet (fail)
              go_wp2_with fail
              go_roundw
              case rel => exact ⟨j + 1, by omega, by go_num, by first | exact HBf.out.drewN _ | exact HBf.out.drew⟩
              case measure => simp [intOf]; omega
            | true =>
              have hand2 := HA2.out rfl
              go_wp2_with fail
              go_quiet (fail)
              go_wp2_with fail
              go_roundw
              case rel => exact ⟨j + 1, by omega, by go_num, by first | exact HBf.out.drewN _ | exact HBf.out.drew⟩
              case measure => simp [intOf]; omega
        · go_wp2_with fail
          go_roundw
          case rel => exact ⟨k + 1, by omega, by go_num, HBp.out.trans HBj.out⟩
          case measure => simp [intOf]; omega
    · have HBw := Lib.hid (HB4.out.trans HBk.out)
      go_wp2_with fail
      go_loopw [95] (fun v wr => ∃ j : Nat, j ≤ N ∧ v = .int .i64 j ∧ Hid (wk = wr)) (fun v _ => N - (intOf v).toNat)
      case atStart => exact ⟨0, Nat.zero_le _, rfl, rfl⟩
      case round =>
        obtain ⟨j, hj, rfl, HE⟩ := hrel
        have HE := HE.out
        subst HE
        by_cases hjl : j < N
        · have hcj := HU.out _ HBk.out j hjl
          have HKk := Lib.hid (HK4.out.bl HBk.out)
          have k0 : wk.cell? ⟨W.heap.size, 0, none⟩ = some (.int .i64 (T : Int)) := HKk.out.cell 0
          have klt : W.heap.size < wk.heap.size := HKk.out.lt
          have hand := andNot_end (HWt.out j)
          have hsh := noEnd_shr (HTm.out j hjl)
          have hjb : b4 < wk.heap.size := World.block_lt_of_cell? _ _ hcj
          generalize (Fi.numW ⟨(T : Int), (N : Int), (S : Int), ps⟩).getD j 0 = x at hcj hand hsh
          generalize noEnd x = y at hand hsh
          have hsh2 : (y : Int) / 2 ^ min T 32 = 0 := by rw [Nat.min_eq_left (by omega)]; exact hsh
          have hT0 : (0 : Int) ≤ (T : Int) := by omega
          go_wp2_with fail
          go_roundw
          case rel => exact ⟨j + 1, by omega, by go_num, by first | exact rfl | exact trivial⟩
          case measure => simp [intOf]; omega
        · go_wp2_with fail
          go_ret
          exact ⟨rfl, HBw.out⟩
end Go.Proofs.Ytgmnokmchjeflaa
