/- follow.Follow: the sets, put together place by place till nothing is new. -/
import Derived.Test.YtgmnokmchjeflaaFoRegion
import Derived.Test.YtgmnokmchjeflaaLAgain
import Derived.Test.YtgmnokmchjeflaaGRight
namespace Go.Proofs.Ytgmnokmchjeflaa
open Go.RowKit

/-- The numbers that a grammar has: none, if it may not be. -/
def followsOf (g : Gr.Gm) : List Nat := if okB g then Fi.numW g else []
theorem followsOf_no {g : Gr.Gm} (h : okB g = false) : followsOf g = [] := by unfold followsOf; rw [if_neg (by rw [h]; decide)]
theorem followsOf_ok {g : Gr.Gm} (h : okB g = true) : followsOf g = Fi.numW g := by unfold followsOf; rw [if_pos h]
theorem followsOf_len {g : Gr.Gm} (h : okB g = true) : (followsOf g).length = g.nons.toNat := by rw [followsOf_ok h, Fi.numW_len]
theorem followsOf_short (g : Gr.Gm) : (followsOf g).length ≤ 24 := by
  cases h : okB g with
  | true => rw [followsOf_len h]; obtain ⟨t, n, s, ps⟩ := g; have := ok_nons h; simp only; omega
  | false => rw [followsOf_no h]; simp

set_option maxRecDepth 100000 in
set_option maxHeartbeats 8000000 in
theorem follow_any (t n s : Int) (A : Option Addr) (len c : Nat) (ps : List Gr.Pr) (w : World) (B : Nat) (hlen : len = ps.length) (hmax : len ≤ 9223372036854775807) (hr : PrsC w B A ps) (hB : B ≤ w.heap.size) :
    Calls Try.prog 9 #[.agg #[.int .i64 t, .int .i64 n, .int .i64 s, .slice A len c]] w (UPost (followsOf ⟨t, n, s, ps⟩) w) := by
  have HL := Lib.hid hlen; clear hlen
  have HA := Lib.hid hr; clear hr
  have HBx : Hid (Bl w (w.alloc (.cells #[.int .i64 t, .int .i64 n, .int .i64 s, .slice A len c] 24))) := (Bl.refl w).alloc _
  have HGx : Hid (Bk (w.alloc (.cells #[.int .i64 t, .int .i64 n, .int .i64 s, .slice A len c] 24)) w.heap.size 24 #[.int .i64 t, .int .i64 n, .int .i64 s, .slice A len c]) := Bk.new w _ _
  cases hok : okB ⟨t, n, s, ps⟩ with
  | false =>
    have HNo := Lib.hid (followsOf_no hok)
    have HOK := Lib.hid hok
    clear hok
    go_enter Try.func9, Try.ntmps9
    go_wp2_with fail
    go_step3
    go_wp2_with fail
    refine (right_any t n s A len c ps _ B HL.out hmax (HA.out.bl hB HBx.out).prs (Nat.le_trans hB HBx.out.size)).mono ?_
    rintro e w1 ⟨rfl, hb1⟩
    rw [HOK.out]
    have HB1 := Lib.hid (HBx.out.trans hb1)
    clear hb1
    go_wp2_with fail
    try rw [Exit.noGoto_ret]
    go_ret
    exact ⟨none, 0, 0, rfl, by rw [HNo.out]; rfl, by rw [HNo.out]; exact Rd.nil, HB1.out⟩
  | true =>
    obtain ⟨n1, n2, n3⟩ := ok_nons hok
    have hl60 : len ≤ 60 := by have := HL.out; omega
    obtain ⟨N, rfl⟩ : ∃ N : Nat, n = (N : Int) := ⟨n.toNat, by omega⟩
    have HYes := Lib.hid (followsOf_ok hok)
    have HOK := Lib.hid hok
    have HOk : Hid (Gr.Ok ⟨t, (N : Int), s, ps⟩) := (okB_iff _).1 hok
    have hst := Fi.start_lt HOk.out
    obtain ⟨S, rfl⟩ : ∃ S : Nat, s = (S : Int) := ⟨s.toNat, by have h5 : (0 : Int) ≤ s := HOk.out.2.2.2.2.1; omega⟩
    have hS : S < N := hst
    have hnp : (Fi.pls ⟨t, (N : Int), (S : Int), ps⟩).length ≤ 480 := by
      have := Fi.plTo_len (g := ⟨t, (N : Int), (S : Int), ps⟩) (m := 8) (fun p hp => ((HOk.out).2.2.2.2.2.2.2 p hp).2.2.1) (i := ps.length) (Nat.le_refl _)
      have h2 := HL.out
      show (Fi.plTo _ ps.length).length ≤ 480
      omega
    obtain ⟨np, hnq⟩ : ∃ np, (Fi.pls ⟨t, (N : Int), (S : Int), ps⟩).length = np := ⟨_, rfl⟩
    rw [hnq] at hnp
    have HNp := Lib.hid hnq
    clear hok hst hnq
    go_enter Try.func9, Try.ntmps9
    go_wp2_with fail
    refine wp_scope_again 0 (fun g a' w' => ∃ (gf : Nat) (Ap : Option Addr) (cp : Nat) (W : List Nat) (u5 u6 u7 u8 u9 u10 u11 u12 u13 u14 u15 u16 u17 u18 u19 u20 u21 u22 u23 u24 u25 u26 u27 u28 u29 u30 u31 u32 u33 u34 u35 u36 u37 u38 u39 u40 u41 u42 u43 u44 u45 u46 u47 u48 u49 u50 u51 u52 u53 u54 u55 u56 u57 u58 u59 u60 u61 u62 : Value),
      a' = { tmps := #[.agg #[.int .i64 t, .int .i64 (N : Int), .int .i64 (S : Int), .slice A len c], .pointer (some ⟨w.heap.size, 0, none⟩), .slice none 0 0, .slice (some ⟨gf, 0, none⟩) N N, .slice Ap np cp, u5, u6, u7, u8, u9, u10, u11, u12, u13, u14, u15, u16, u17, u18, u19, u20, u21, u22, u23, u24, u25, u26, u27, u28, u29, u30, u31, u32, u33, u34, u35, u36, u37, u38, u39, u40, u41, u42, u43, u44, u45, u46, u47, u48, u49, u50, u51, u52, u53, u54, u55, u56, u57, u58, u59, u60, u61, u62], defers := [] } ∧
      Hid (WRel w w.heap.size #[.int .i64 t, .int .i64 (N : Int), .int .i64 (S : Int), .slice A len c] N gf N Ap np cp (Fi.pls ⟨t, (N : Int), (S : Int), ps⟩) W w') ∧ Hid (Fi.UnderW ⟨t, (N : Int), (S : Int), ps⟩ W) ∧ Hid (g + Fi.fullN N W = N * 32)) rfl ?_ ?_
    · intro HX
      have HX := Lib.hid HX
      go_wp2_with fail
      refine (right_any t N S A len c ps _ B HL.out hmax (HA.out.bl hB HBx.out).prs (Nat.le_trans hB HBx.out.size)).mono ?_
      rintro e w1 ⟨rfl, hb1⟩
      rw [HOK.out]
      have HB1 := Lib.hid (HBx.out.trans hb1)
      have HG1 := Lib.hid (HGx.out.bl hb1)
      clear hb1
      go_wp2_with fail
      refine followRegion t S A len c N np ps w w1 B w.heap.size _ _ _ _ _ _ _ _ _ _ _ _ _ _ _ _ _ _ _ _ _ _ _ _ _ _ _ _ _ _ _ _ _ _ _ _ _ _ _ _ _ _ _ _ _ _ _ _ _ _ _ _ _ _ _ _ _ _ _ _ _ _ _ HL.out HOK.out HA.out hB HG1.out HB1.out HNp.out (fun _ a a' _ h hq => by obtain ⟨ta, da⟩ := a; obtain ⟨tb, db⟩ := a'; cases h; exact hq) ?_
      intro gf Ap cp x11 x12 x13 x14 x15 w2 hk
      have HK := Lib.hid hk
      have k2 : w2.cell? ⟨w.heap.size, 2, none⟩ = some (.int .i64 (S : Int)) := hk.bg.cell 2
      have kc := hk.cell hS
      have kf := hk.free S
      have kg := hk.glt
      have klt := hk.bg.lt
      have hS0 : (0 : Int) ≤ (S : Int) := by omega
      have hS1 : (S : Int) < (N : Int) := by omega
      have HPt := Lib.hid (hk.put S 65536)
      clear hk
      go_wp2_with fail
      go_step3
      rename_i hKK
      refine hKK _ _ (HX.out _ _ ⟨N * 32 - Fi.fullN N ((List.replicate N 0).set S 65536), gf, Ap, cp, (List.replicate N 0).set S 65536, _, _, _, _, _, _, _, _, _, _, _, _, _, _, _, _, _, _, _, _, _, _, _, _, _, _, _, _, _, _, _, _, _, _, _, _, _, _, _, _, _, _, _, _, _, _, _, _, _, _, _, _, _, _, _, _, _, _, rfl, HPt.out, Fi.UnderW.begin_ HOk.out, ?_⟩)
      have h := Fi.fullN_le N ((List.replicate N 0).set S 65536)
      show _ + _ = _
      omega
    · rintro g a' w1 ⟨gf, Ap, cp, W, u5, u6, u7, u8, u9, u10, u11, u12, u13, u14, u15, u16, u17, u18, u19, u20, u21, u22, u23, u24, u25, u26, u27, u28, u29, u30, u31, u32, u33, u34, u35, u36, u37, u38, u39, u40, u41, u42, u43, u44, u45, u46, u47, u48, u49, u50, u51, u52, u53, u54, u55, u56, u57, u58, u59, u60, u61, u62, rfl, HK, HU, HM⟩
      go_wp2_with fail
      go_loopw [22] (fun i wr => ∃ k : Nat, k ≤ np ∧ i = .int .i64 k ∧ Hid (Fi.ShutP ⟨t, (N : Int), (S : Int), ps⟩ W k) ∧ Hid (WRel w w.heap.size #[.int .i64 t, .int .i64 (N : Int), .int .i64 (S : Int), .slice A len c] N gf N Ap np cp (Fi.pls ⟨t, (N : Int), (S : Int), ps⟩) W wr)) (fun i _ => np - (intOf i).toNat)
      case atStart => exact ⟨0, Nat.zero_le _, rfl, Fi.shutP_zero, HK.out⟩
      case round =>
        obtain ⟨k, hk, rfl, HS, HKr⟩ := hrel
        by_cases hlt : k < np
        · have hj : k < (Fi.pls ⟨t, (N : Int), (S : Int), ps⟩).length := by have := HNp.out; omega
          obtain ⟨b, off, rfl, hb, c0, c1, c2, c3⟩ := HKr.out.rdp.pl hj
          have hgk : (Fi.pls ⟨t, (N : Int), (S : Int), ps⟩)[k]? = some (Fi.pls ⟨t, (N : Int), (S : Int), ps⟩)[k] := List.getElem?_eq_getElem hj
          have hmem : (Fi.pls ⟨t, (N : Int), (S : Int), ps⟩)[k] ∈ Fi.pls ⟨t, (N : Int), (S : Int), ps⟩ := List.getElem_mem hj
          obtain ⟨q1, q2, q3⟩ := Fi.pl_nums HOk.out hmem
          have HPut := Lib.hid (HU.out.pl HOk.out hmem)
          have HVl := Lib.hid (Fi.plV_lt HOk.out HU.out hmem)
          have HSuc := Lib.hid (Fi.shutP_succ HS.out hgk)
          have HWl : Hid (W.length = N) := HU.out.len_
          have HWt : Hid (∀ n, W.getD n 0 < 4294967296) := HU.out.lt
          clear hgk hmem
          generalize (Fi.pls ⟨t, (N : Int), (S : Int), ps⟩)[k] = q at *
          have HLt : Hid (Fi.plV W q ≠ W.getD q.non 0 → Fi.fullN N W < Fi.fullN N (W.set q.non (Fi.plV W q))) := fun hne => Fi.fullN_lt (N := N) (F := W) (m := q.non) (v := q.behind ||| (if q.all then W.getD q.left 0 else 0)) HWl.out q1 (HWt.out _) (Nat.or_lt_two_pow (n := 32) q3 (by split; exact HWt.out _; decide)) hne
          have HNo := Lib.hid (Fi.plV_no (W := W) (q := q))
          have HYs := Lib.hid (Fi.plV_yes (W := W) (q := q) (by rw [HWl.out]; exact q1))
          obtain ⟨qn, ql, qb, qa⟩ := q
          simp only at c0 c1 c2 c3
          have q1 : qn < N := q1
          have q2 : ql < N := q2
          have q3 : qb < 4294967296 := q3
          have HPut : Hid (Fi.UnderW ⟨t, (N : Int), (S : Int), ps⟩ (W.set qn (Fi.plV W ⟨qn, ql, qb, qa⟩))) := HPut.out
          generalize hv : Fi.plV W ⟨qn, ql, qb, qa⟩ = v at *
          have hx := HWt.out qn
          have kc := HKr.out.cell q1
          simp only at HSuc HLt HNo HYs
          generalize hxq : W.getD qn 0 = x at *
          have HXq := Lib.hid hxq
          have kg := HKr.out.glt
          have hn0 : (0 : Int) ≤ (qn : Int) := by omega
          have hn1 : (qn : Int) < (N : Int) := by omega
          have hl0 : (0 : Int) ≤ (ql : Int) := by omega
          have hl1 : (ql : Int) < (N : Int) := by omega
          have HKa := Lib.hid (HKr.out.alloc (.cells #[.int .i64 qn, .int .i64 ql, .int .u32 qb, .bool qa] 47))
          have HPa := Lib.hid (Bk.new wr 47 #[.int .i64 qn, .int .i64 ql, .int .u32 qb, .bool qa])
          have hor := or_nat x qb hx q3
          clear hj hxq hv
          go_wp2_with fail
          generalize hw2 : wr.alloc (.cells #[.int .i64 qn, .int .i64 ql, .int .u32 qb, .bool qa] 47) = w2 at HKa HPa ⊢
          have HW2 := Lib.hid hw2
          clear hw2 kc kg c0 c1 c2 c3 hb
          have kc : w2.cell? ⟨gf, qn, none⟩ = some (.int .u32 (x : Int)) := by have h := HKa.out.cell q1; rwa [HXq.out] at h
          have kg := HKa.out.glt
          have kf := HKa.out.free qn
          have p0 : w2.cell? ⟨wr.heap.size, 0, none⟩ = some (.int .i64 qn) := HPa.out.cell 0
          have p2 : w2.cell? ⟨wr.heap.size, 2, none⟩ = some (.int .u32 qb) := HPa.out.cell 2
          have plt := HPa.out.lt
          have HX1 := Lib.hid (HKa.out.putx (m := qn) hor).drew
          have HP1 := Lib.hid (HKa.out.far HPa.out (by decide) qn (.int .u32 (bits .or .u32 (x : Int) (qb : Int)))).drew
          have HOr := Lib.hid hor
          clear hor
          go_region
          generalize hw3 : (w2.setCell ⟨gf, qn, none⟩ (.int .u32 (bits .or .u32 (x : Int) (qb : Int)))).drew = w3 at HX1 HP1 ⊢
          have HW3 := Lib.hid hw3
          clear hw3 kc kg kf p0 p2 plt
          have kg := HX1.out.glt
          have p0 : w3.cell? ⟨wr.heap.size, 0, none⟩ = some (.int .i64 qn) := HP1.out.cell 0
          have p1 : w3.cell? ⟨wr.heap.size, 1, none⟩ = some (.int .i64 ql) := HP1.out.cell 1
          have p3 : w3.cell? ⟨wr.heap.size, 3, none⟩ = some (.bool qa) := HP1.out.cell 3
          have plt := HP1.out.lt
          cases qa with
          | false =>
            have hv := HNo.out rfl
            have HXv := Lib.hid (HX1.out.is (V := W.set qn v) (by rw [hv]))
            have kc : w3.cell? ⟨gf, qn, none⟩ = some (.int .u32 (v : Int)) := by have h := HXv.out.cell q1; rwa [Fi.getD_set (by rw [HWl.out]; exact q1), if_pos rfl] at h
            clear hv
            have hq0 : v = x ∨ v ≠ x := Decidable.em _
            rcases hq0 with hq | hq
            · have HSu := Lib.hid (HSuc.out hq)
              have hqi : ((v : Int) != (x : Int)) = false := by rw [hq]; simp
              have HXe := Lib.hid (HXv.out.is (V := W) (by rw [hq, ← HXq.out]; exact (set_same_nat (by rw [HWl.out]; exact q1) rfl).symm))
              clear hq
              go_wp2_with fail
              go_roundw
              case rel => exact ⟨k + 1, by omega, by go_num, HSu.out, HXe.out⟩
              case measure => simp [intOf]; omega
            · have hqi : ((v : Int) != (x : Int)) = true := by simp; omega
              have hlf := HLt.out hq
              have HMm : Hid (N * 32 - Fi.fullN N (W.set qn v) < g) := by have h1 := HM.out; have h2 := Fi.fullN_le N (W.set qn v); show _ - _ < g; omega
              have HMe : Hid (N * 32 - Fi.fullN N (W.set qn v) + Fi.fullN N (W.set qn v) = N * 32) := by have h2 := Fi.fullN_le N (W.set qn v); show _ + _ = _; omega
              clear hq hlf
              go_wp2_with fail
              go_step3
              exact ⟨rfl, _, HMm.out, gf, _, cp, W.set qn v, _, _, _, _, _, _, _, _, _, _, _, _, _, _, _, _, _, _, _, _, _, _, _, _, _, _, _, _, _, _, _, _, _, _, _, _, _, _, _, _, _, _, _, _, _, _, _, _, _, _, _, _, _, _, _, _, _, _, rfl, HXv.out, HPut.out, HMe.out⟩
          | true =>
            have hv := HYs.out rfl
            have hy := Fi.getD_set (F := W) (m := qn) (n := ql) (v := x ||| qb) (by rw [HWl.out]; exact q1)
            have hy2 : (W.set qn (x ||| qb)).getD ql 0 < 4294967296 := by rw [hy]; split; exact Nat.or_lt_two_pow (n := 32) hx q3; exact HWt.out _
            have kcl := HX1.out.cell q2
            have kc := HX1.out.cell q1
            have hz : (W.set qn (x ||| qb)).getD qn 0 = x ||| qb := by rw [Fi.getD_set (by rw [HWl.out]; exact q1), if_pos rfl]
            have hx2 : x ||| qb < 4294967296 := Nat.or_lt_two_pow (n := 32) hx q3
            rw [hz] at hv kc
            clear hy hz
            generalize (W.set qn (x ||| qb)).getD ql 0 = y at *
            generalize hxb : x ||| qb = xb at *
            have HXb := Lib.hid hxb
            have hor2 : bits .or .u32 (xb : Int) (y : Int) = (v : Int) := by rw [or_nat xb y hx2 hy2, hv]
            have kf := HX1.out.free qn
            have HX2 := Lib.hid ((HX1.out.putx (m := qn) hor2).drew.is (V := W.set qn v) Fi.set_two.symm)
            have HP2 := Lib.hid (HX1.out.far HP1.out (by decide) qn (.int .u32 (bits .or .u32 (xb : Int) (y : Int)))).drew
            have HOr2 := Lib.hid hor2
            clear hor2 hv hxb
            go_wp2_with fail
            go_region
            generalize hw4 : (w3.setCell ⟨gf, qn, none⟩ (.int .u32 (bits .or .u32 (xb : Int) (y : Int)))).drew = w4 at HX2 HP2 ⊢
            have HW4 := Lib.hid hw4
            clear hw4 kc kcl kg kf p0 p1 p3 plt
            have kg := HX2.out.glt
            have p0 : w4.cell? ⟨wr.heap.size, 0, none⟩ = some (.int .i64 qn) := HP2.out.cell 0
            have plt := HP2.out.lt
            have kc : w4.cell? ⟨gf, qn, none⟩ = some (.int .u32 (v : Int)) := by have h := HX2.out.cell q1; rwa [Fi.getD_set (by rw [HWl.out]; exact q1), if_pos rfl] at h
            have hq0 : v = x ∨ v ≠ x := Decidable.em _
            rcases hq0 with hq | hq
            · have HSu := Lib.hid (HSuc.out hq)
              have hqi : ((v : Int) != (x : Int)) = false := by rw [hq]; simp
              have HXe := Lib.hid (HX2.out.is (V := W) (by rw [hq, ← HXq.out]; exact (set_same_nat (by rw [HWl.out]; exact q1) rfl).symm))
              clear hq
              go_wp2_with fail
              go_roundw
              case rel => exact ⟨k + 1, by omega, by go_num, HSu.out, HXe.out⟩
              case measure => simp [intOf]; omega
            · have hqi : ((v : Int) != (x : Int)) = true := by simp; omega
              have hlf := HLt.out hq
              have HMm : Hid (N * 32 - Fi.fullN N (W.set qn v) < g) := by have h1 := HM.out; have h2 := Fi.fullN_le N (W.set qn v); show _ - _ < g; omega
              have HMe : Hid (N * 32 - Fi.fullN N (W.set qn v) + Fi.fullN N (W.set qn v) = N * 32) := by have h2 := Fi.fullN_le N (W.set qn v); show _ + _ = _; omega
              clear hq hlf
              go_wp2_with fail
              go_step3
              exact ⟨rfl, _, HMm.out, gf, _, cp, W.set qn v, _, _, _, _, _, _, _, _, _, _, _, _, _, _, _, _, _, _, _, _, _, _, _, _, _, _, _, _, _, _, _, _, _, _, _, _, _, _, _, _, _, _, _, _, _, _, _, _, _, _, _, _, _, _, _, _, _, _, rfl, HX2.out, HPut.out, HMe.out⟩
        · have HE : Hid (W = Fi.numW ⟨t, (N : Int), (S : Int), ps⟩) := HU.out.end_ HOk.out (by
            have h := HS.out
            rwa [show k = (Fi.pls ⟨t, (N : Int), (S : Int), ps⟩).length by have := HNp.out; omega] at h)
          go_wp2_with fail
          try rw [Exit.noGoto_ret]
          go_ret
          refine ⟨_, N, N, rfl, ?_, ?_, HKr.out.b⟩
          · rw [HYes.out, Fi.numW_len]; simp
          · rw [HYes.out, ← HE.out]; exact HKr.out.rd
end Go.Proofs.Ytgmnokmchjeflaa
