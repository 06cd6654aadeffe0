/- follow.places: the places at which nonterminals stand. -/
import Derived.Test.YtgmnokmchjeflaaFoMem
import Derived.Deep.RegionHeld3
namespace Go.Proofs.Ytgmnokmchjeflaa
open Go.RowKit

set_option maxRecDepth 100000 in
set_option maxHeartbeats 8000000 in
theorem places_any (t n s : Int) (A : Option Addr) (len c : Nat) (ps : List Gr.Pr) (w : World) (B : Nat) (hlen : len = ps.length) (hmax : len ≤ 9223372036854775807) (hr : PrsC w B A ps) (hB : B ≤ w.heap.size) (hok : okB ⟨t, n, s, ps⟩ = true) :
    Calls Try.prog 15 #[.agg #[.int .i64 t, .int .i64 n, .int .i64 s, .slice A len c]] w (PlNew (Fi.pls ⟨t, n, s, ps⟩) w) := by
  obtain ⟨i0, hi, hz0, hz1, hz2⟩ := info_parts pl_info
  have HL := Lib.hid hlen; clear hlen
  have HP : Hid (∀ w', Bl w w' → PrsC w' w'.heap.size A ps) := fun _ hb => (hr.bl hB hb).more (Nat.le_trans hB hb.size)
  clear hr hB
  have HB0 : Hid (Bl w (w.alloc (.cells #[.int .i64 t, .int .i64 n, .int .i64 s, .slice A len c] 24))) := (Bl.refl w).alloc _
  have HG0 : Hid (Bk (w.alloc (.cells #[.int .i64 t, .int .i64 n, .int .i64 s, .slice A len c] 24)) w.heap.size 24 #[.int .i64 t, .int .i64 n, .int .i64 s, .slice A len c]) := Bk.new w _ _
  have HOK := Lib.hid hok
  have HOk : Hid (Gr.Ok ⟨t, n, s, ps⟩) := (okB_iff _).1 hok
  have hlx60 : len ≤ 60 := by obtain ⟨n1, n2, n3⟩ := ok_nons hok; have := HL.out; omega
  have HT8 : Hid (∀ i, i ≤ len → (Fi.plTo ⟨t, n, s, ps⟩ i).length ≤ 480) := fun i h => by
    have := Fi.plTo_len (g := ⟨t, n, s, ps⟩) (m := 8) (fun p hp => ((HOk.out).2.2.2.2.2.2.2 p hp).2.2.1) (i := i) (by have := HL.out; show i ≤ ps.length; omega)
    omega
  clear hok
  go_enter Try.func15, Try.ntmps15
  go_wp2_with fail
  go_loopw [3, 13] (fun v i wr => ∃ k : Nat, k ≤ len ∧ i = .int .i64 k ∧ Hid (PlRel w w.heap.size #[.int .i64 t, .int .i64 n, .int .i64 s, .slice A len c] (Fi.plTo ⟨t, n, s, ps⟩ k) v wr)) (fun _ i _ => len - (intOf i).toNat)
  case atStart => exact ⟨0, Nat.zero_le _, rfl, ⟨World.ownsRow_nil _ _ _ _, HG0.out, HB0.out⟩⟩
  case round =>
    obtain ⟨k, hk, rfl, HR⟩ := hrel
    obtain ⟨wk, rfl⟩ : ∃ wk : World, wk = wr := ⟨_, rfl⟩
    by_cases hlt : k < len
    · have hj : k < ps.length := by have := HL.out; omega
      have HBw := Lib.hid HR.out.b
      obtain ⟨b, off, Ax, cx, rfl, hbB, hrx, hc0, hc1, hcx, hcm⟩ := (HP.out _ HBw.out).at_ hj
      have HX : Hid (∀ w', Bl w w' → Rd w' w'.heap.size Ax (syRow ps[k].right)) := by
        obtain ⟨b2, off2, Ax2, cx2, e2, _, hr2, _, h12, _⟩ := (HP.out _ (Bl.refl w)).at_ hj
        injection e2 with e2
        injection e2 with e3 e4
        subst e3 e4
        have h13 := (Below.cell HBw.out (p := ⟨b, off + k * 2 + 1, none⟩) (by have := World.block_lt_of_cell? _ _ h12; exact this)).trans h12
        rw [h13] at hc1
        injection hc1 with hc1
        injection hc1 with hc1 _ _
        subst hc1
        exact fun _ hb => rd_on hr2 hb
      have hgk : (⟨t, n, s, ps⟩ : Gr.Gm).prods[k]? = some ps[k] := List.getElem?_eq_getElem hj
      have HSuc := Lib.hid (Fi.plTo_succ hgk)
      have HMay := Lib.hid (fun q => mayOf_drop HOK.out (p := ps[k]) (List.getElem_mem hj) q)
      obtain ⟨⟨o1, o2⟩, o3, o4⟩ := ok_syms HOK.out hj
      have HSy : Hid (Fi.SyOk n.toNat ps[k].right) := Fi.syOk_prod HOk.out (List.getElem_mem hj)
      have HTl := Lib.hid (HT8.out k (by omega))
      have hme : ps[k].left = ((ps[k].left.toNat : Nat) : Int) := by omega
      rw [hme] at hc0
      clear hrx o1 o2 o4 hgk hme
      generalize ps[k].left.toNat = m at *
      generalize ps[k].right = right at *
      have hr8 : right.length ≤ 8 := o3
      have HR1 := Lib.hid (HR.out.alloc (.cells #[.int .i64 m, .slice Ax right.length cx] 37))
      have HK1 := Lib.hid (Bk.new wk 37 #[.int .i64 m, .slice Ax right.length cx])
      have hwk : w.heap.size ≤ wk.heap.size := HBw.out.size
      clear hj o3
      go_wp2_with fail
      go_loopw [3, 20] (fun v i wr => ∃ j : Nat, j ≤ right.length ∧ i = .int .i64 j ∧ Hid (PlRel w w.heap.size #[.int .i64 t, .int .i64 n, .int .i64 s, .slice (some ⟨b, off, none⟩) len c] (Fi.plTo ⟨t, n, s, ps⟩ k ++ Fi.plPre ⟨t, n, s, ps⟩ m right j) v wr) ∧ Hid (Bk wr wk.heap.size 37 #[.int .i64 m, .slice Ax right.length cx])) (fun _ i _ => right.length - (intOf i).toNat)
      case atStart => exact ⟨0, Nat.zero_le _, rfl, HR1.out.is (by rw [Fi.plPre_zero, List.append_nil]), HK1.out⟩
      case round =>
        obtain ⟨j, hj, rfl, HRj, HKj⟩ := hrel
        by_cases hjl : j < right.length
        · have HBj := Lib.hid HRj.out.b
          obtain ⟨bs, os, rfl, hbs, hs0, hs1⟩ := (HX.out _ HBj.out).sym hjl
          have HPre := Lib.hid (Fi.plPre_succ ⟨t, n, s, ps⟩ m right j)
          have hgj : right[j]? = some right[j] := List.getElem?_eq_getElem hjl
          have HTj : Hid ((Fi.plTo ⟨t, n, s, ps⟩ k ++ Fi.plPre ⟨t, n, s, ps⟩ m right j).length ≤ 500) := by
            have h1 := HTl.out
            have h2 := Fi.plPre_len ⟨t, n, s, ps⟩ m right j
            unfold Hid
            rw [List.length_append]; omega
          have hsn := (HSy.out _ (List.getElem_mem hjl)).1
          have HNon := Lib.hid (fun h => Fi.plOne_non (g := ⟨t, n, s, ps⟩) (left := m) hgj h)
          have HTerm := Lib.hid (fun h => Fi.plOne_term (g := ⟨t, n, s, ps⟩) (left := m) hgj h)
          clear hgj
          generalize right[j] = sy at *
          obtain ⟨yn, yv⟩ := sy
          simp only at hs0 hs1 hsn
          obtain ⟨nv, rfl⟩ : ∃ nv : Nat, yv = (nv : Int) := ⟨yv.toNat, by omega⟩
          clear hsn
          cases yn with
          | false =>
            have HX2 := Lib.hid ((HRj.out.alloc (.cells #[.bool false, .int .i64 nv] 39)).is (m := Fi.plTo ⟨t, n, s, ps⟩ k ++ Fi.plPre ⟨t, n, s, ps⟩ m right (j + 1)) (by rw [HPre.out, HTerm.out rfl, List.append_nil]))
            have HK2 := Lib.hid (HKj.out.alloc (.cells #[.bool false, .int .i64 nv] 39))
            go_wp2_with fail
            go_roundw
            case rel => exact ⟨j + 1, by omega, by go_num, HX2.out, HK2.out⟩
            case measure => simp [intOf]; omega
          | true =>
            have hmy := HMay.out (j + 1)
            have e1 := ofNum_yes hmy
            have e2 := ofAll_yes hmy
            have hpl := HNon.out rfl
            have hxl : (right.drop (j + 1)).length = right.length - (j + 1) := List.length_drop ..
            have hrc : Rd wr wr.heap.size (if cx = j + 1 then some ⟨bs, os, none⟩ else (some (⟨bs, os, none⟩ : Addr)).map (·.add ((j + 1) * 2))) (syRow (right.drop (j + 1))) := (HX.out _ HBj.out).sy_cut hcx
            have hsl := fun (wx : World) => run_slice_tail (P := Try.prog) (t := 35) (e := 39) (size := 2) Try.underlying35 sy_size (some ⟨bs, os, none⟩) right.length cx (j + 1) ((j : Int) + 1) (by omega) (by omega) wx
            generalize (if cx = j + 1 then some (⟨bs, os, none⟩ : Addr) else (some (⟨bs, os, none⟩ : Addr)).map (·.add ((j + 1) * 2))) = Ay at hrc hsl
            have HOn := Lib.hid e1
            have HOa := Lib.hid e2
            have HXl := Lib.hid hxl.symm
            clear hmy e1 e2 hxl HMay HNon HTerm
            generalize right.drop (j + 1) = rest at *
            simp only at hpl
            rw [show ((nv : Nat) : Int).toNat = nv from rfl] at hpl
            generalize Fi.ofN (Fi.numR ⟨t, n, s, ps⟩) (Fi.nulls ⟨t, n, s, ps⟩) rest = num at *
            generalize Fi.allNull (Fi.nulls ⟨t, n, s, ps⟩) rest = all at *
            have HNx : Hid (Fi.plTo ⟨t, n, s, ps⟩ k ++ Fi.plPre ⟨t, n, s, ps⟩ m right (j + 1) = (Fi.plTo ⟨t, n, s, ps⟩ k ++ Fi.plPre ⟨t, n, s, ps⟩ m right j) ++ [⟨nv, m, num, all⟩]) := by
              unfold Hid
              rw [HPre.out, hpl, List.append_assoc]
            clear hpl
            generalize Fi.plTo ⟨t, n, s, ps⟩ k ++ Fi.plPre ⟨t, n, s, ps⟩ m right j = lq at *
            have HR5 := Lib.hid (HRj.out.alloc (.cells #[.bool true, .int .i64 nv] 39))
            have HK5 := Lib.hid (HKj.out.alloc (.cells #[.bool true, .int .i64 nv] 39))
            have HS5 := Lib.hid (Bk.new wr 39 #[.bool true, .int .i64 nv])
            have HRc := Lib.hid (rd_on hrc ((Bl.refl wr).alloc (.cells #[.bool true, .int .i64 nv] 39)))
            clear hrc
            go_wp2_with fail
            generalize hw5 : wr.alloc (.cells #[.bool true, .int .i64 nv] 39) = w5 at HR5 HK5 HS5 HRc ⊢
            have HW5 := Lib.hid hw5
            clear hw5
            have HGc := Lib.hid HR5.out.bg
            have HKc := Lib.hid HK5.out
            have hwr : IntKind.i64.wrap ((j : Int) + 1) = (j : Int) + 1 := by simp [IntKind.wrap, IntKind.bits, IntKind.signed]; omega
            have tk1 : True := trivial
            go_region_held3 (fun w' => w'.cell? ⟨w.heap.size, 0, none⟩ = some (.int .i64 t) ∧ w'.cell? ⟨w.heap.size, 1, none⟩ = some (.int .i64 n) ∧ w'.cell? ⟨w.heap.size, 2, none⟩ = some (.int .i64 s) ∧ w'.cell? ⟨w.heap.size, 3, none⟩ = some (.slice (some ⟨b, off, none⟩) len c) ∧ w'.cell? ⟨wk.heap.size, 1, none⟩ = some (.slice (some ⟨bs, os, none⟩) right.length cx)) (exact ⟨HGc.out.cell 0, HGc.out.cell 1, HGc.out.cell 2, HGc.out.cell 3, HKc.out.cell 1⟩) (first
              | (go_at_call 13; have _t := tk1; ((with_reducible refine (fof_any t n s (some ⟨b, off, none⟩) len c ps Ay (right.length - (j + 1)) (cx - (j + 1)) rest _ w5.heap.size HL.out hmax (prs_drew (HP.out w5 HR5.out.b).prs) HXl.out (by omega) (rd_drew HRc.out) (Nat.le_refl _)).mono ?_); rintro e v1 ⟨rfl, hb1⟩; rw [HOn.out, HOa.out]; have HBc := Lib.hid (Bl.undrew hb1); have HGc := Lib.hid (HGc.out.bl HBc.out); have HKc := Lib.hid (HKc.out.bl HBc.out); clear hb1; clear tk1)))
            have HR6 := Lib.hid (HR5.out.bl_ HBc.out)
            have HS6 := Lib.hid (HS5.out.bl HBc.out)
            have hsz : w.heap.size ≤ v1.heap.size := HR6.out.b.size
            have ks1 : v1.cell? ⟨wr.heap.size, 1, none⟩ = some (.int .i64 nv) := HS6.out.cell 1
            have kp0 : v1.cell? ⟨wk.heap.size, 0, none⟩ = some (.int .i64 m) := HKc.out.cell 0
            have ks2 : wr.heap.size < v1.heap.size := HS6.out.lt
            have kp2 : wk.heap.size < v1.heap.size := HKc.out.lt
            have hl5 := HTj.out
            have HMore := Lib.hid (fun (w2 : World) (v2 : Value) (o : Obj) ho hg => HR6.out.more (w2 := w2) (v2 := v2) (o := o) (q := ⟨nv, m, num, all⟩) ho hg)
            have HKeep := Lib.hid (fun (w2 : World) (o : Obj) hg => HR6.out.keep (w2 := w2) (o := o) HKc.out (by decide) hg)
            have HOw := Lib.hid HR6.out.own
            go_wp2_with (at_builtin; refine wpList_append_own _ rfl (.tmp 37) (.tmp 45) 44 rfl w.heap.size 47 i0 (.agg #[.int .i64 0, .int .i64 0, .int .u32 0, .bool false]) 4 24 Try.underlying44 hi hz0 hz1 hz2 rfl (by decide) _ _ _ rfl (HOw.out.alloc _) ⟨v1.heap.size, 0, none⟩ 1 1 [.int .i64 (nv : Int), .int .i64 (m : Int), .int .u32 (num : Int), .bool all] rfl rfl (four_new _ _ _ _ _ _) (by simp [Value.oneCell']) (by simp only [maxLen]; omega) (by omega) (by simp; omega) ?_; intro v2 w2 hown2 hg2 _; have HY := Lib.hid (HMore.out _ _ _ hown2 hg2); have HZ := Lib.hid (HKeep.out _ _ hg2); clear hown2 hg2)
            go_roundw
            case rel => exact ⟨j + 1, by omega, by go_num, HY.out.is HNx.out, HZ.out⟩
            case measure => simp [intOf]; omega
        · have HX2 := Lib.hid (HRj.out.is (m := Fi.plTo ⟨t, n, s, ps⟩ (k + 1)) (by rw [HSuc.out, show j = right.length by omega]))
          go_wp2_with fail
          go_roundw
          case rel => exact ⟨k + 1, by omega, by go_num, HX2.out⟩
          case measure => simp [intOf]; omega
    · have hke : k = len := by omega
      have HE := Lib.hid (HR.out.is (m := Fi.pls ⟨t, n, s, ps⟩) (by unfold Fi.pls; rw [show (⟨t, n, s, ps⟩ : Gr.Gm).prods.length = k by have := HL.out; show ps.length = k; omega]))
      obtain ⟨Av, cv, hv, _⟩ := own_form HE.out.own
      subst hv
      clear hke HR
      go_wp2_with fail
      go_ret
      exact ⟨_, _, _, rfl, rfl, HE.out.own, HE.out.b⟩
end Go.Proofs.Ytgmnokmchjeflaa
