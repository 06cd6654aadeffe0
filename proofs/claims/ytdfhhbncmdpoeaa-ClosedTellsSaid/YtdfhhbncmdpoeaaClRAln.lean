/- The reference's Alone: is a derivation alone in sets? -/
import Derived.Test.YtdfhhbncmdpoeaaClRAlM
import Derived.Test.YtdfhhbncmdpoeaaClRCls
import Derived.Test.YtdfhhbncmdpoeaaClAwk
import Derived.Test.YtdfhhbncmdpoeaaGRS
namespace Go.Proofs.Ytdfhhbncmdpoeaa
open Go.RowKit

set_option maxRecDepth 100000 in
set_option maxHeartbeats 16000000 in
theorem ralone_any (t n s : Int) (A : Option Addr) (len c : Nat) (ps : List Gr.Pr) (Aw : Option Addr) (lw cw : Nat) (xs : List Int) (As : Option Addr) (ls cs : Nat) (L : List (List Ix)) (Al : Option Addr) (ll cl : Nat) (l : List Int) (W : World) (hlen : len = ps.length) (hmax : len ≤ 9223372036854775807) (hr : Prs W W.heap.size A ps) (hlw : lw = xs.length) (hmw : lw ≤ 1000) (hrw : Rd W W.heap.size Aw (ins xs)) (hls : ls = L.length) (hL : L.length ≤ 100) (hM : ∀ l ∈ L, l.length ≤ 2000) (hs : SetsX W W.heap.size As L)
    (hll : ll = l.length) (hml : ll ≤ 9223372036854775806) (hrl : Rd W W.heap.size Al (ins l)) :
    Calls Try.prog 11 #[.agg #[.int .i64 t, .int .i64 n, .int .i64 s, .slice A len c], .slice Aw lw cw, .slice As ls cs, .slice Al ll cl] W fun e w' => ∃ b : Bool, e = .returned (.bool b) ∧ (b = true ↔ AloneP ⟨t, n, s, ps⟩ xs L l) ∧ Bl W w' := by
  have HB0 : Hid (Bl W (W.alloc (.cells #[.int .i64 t, .int .i64 n, .int .i64 s, .slice A len c] 24))) := (Bl.refl W).alloc _
  have HK0 := Lib.hid (Bk.new W 24 #[.int .i64 t, .int .i64 n, .int .i64 s, .slice A len c])
  have HLn := Lib.hid hlen
  have HLw := Lib.hid hlw
  have HLs := Lib.hid hls
  have HLl := Lib.hid hll
  have HPr : Hid (∀ w', Bl W w' → Prs w' w'.heap.size A ps) := fun _ hb => (hr.bl (Nat.le_refl _) hb).more hb.size
  have HXr : Hid (∀ w', Bl W w' → Rd w' w'.heap.size Aw (ins xs)) := fun _ hb => lrd_on hrw hb
  have HLr : Hid (∀ w', Bl W w' → Rd w' w'.heap.size Al (ins l)) := fun _ hb => lrd_on hrl hb
  have HSx : Hid (∀ w', Bl W w' → SetsX w' w'.heap.size As L) := fun _ hb => hs.on hb
  have HMx := Lib.hid hM
  have HL1 := Lib.hid hL
  clear hlen hlw hls hll hr hrw hrl hs hM hL
  by_cases hlq : ls = lw + 1
  case neg =>
    have q1 : ((ls : Int) != (lw : Int) + 1) = true := by rw [bne_iff_ne]; omega
    have HLq := Lib.hid hlq
    clear hlq
    go_enter Try.func11, Try.ntmps11
    go_wp2_with fail
    go_ret
    refine ⟨false, rfl, ⟨fun h => (by cases h), fun h => (HLq.out ?_).elim⟩, HB0.out⟩
    have h1 := h.1
    have h2 := HLs.out
    have h3 := HLw.out
    omega
  have q1 : ((ls : Int) != (lw : Int) + 1) = false := by rw [bne_eq_false_iff_eq]; omega
  have HLq := Lib.hid hlq
  clear hlq
  go_enter Try.func11, Try.ntmps11
  have k0 := HK0.out.cell 0
  have k1 := HK0.out.cell 1
  have k2 := HK0.out.cell 2
  have k3 := HK0.out.cell 3
  go_wp2_with fail
  refine (rclosed_any t n s A len c ps Aw lw cw xs As ls cs L _ HLn.out hmax (HPr.out _ HB0.out) HLw.out hmw (HXr.out _ HB0.out) HLs.out HL1.out HMx.out (HSx.out _ HB0.out)).mono ?_
  rintro e w1 ⟨b1, rfl, hi1, hb1⟩
  have HB1 := Lib.hid (HB0.out.trans hb1)
  have HK1 := Lib.hid (HK0.out.bl hb1)
  clear hb1 HB0 HK0 k0 k1 k2 k3
  cases b1 with
  | false =>
    have HN : Hid (¬ AloneP ⟨t, n, s, ps⟩ xs L l) := fun h => by have := hi1.2 h.2.2.1; cases this
    clear hi1
    go_wp2_with fail
    go_ret
    exact ⟨false, rfl, ⟨fun h => (by cases h), fun h => (HN.out h).elim⟩, HB1.out⟩
  | true =>
  have HCl := Lib.hid (hi1.1 rfl)
  clear hi1
  have k0 : w1.cell? ⟨W.heap.size, 0, none⟩ = some (.int .i64 t) := HK1.out.cell 0
  have k1 : w1.cell? ⟨W.heap.size, 1, none⟩ = some (.int .i64 n) := HK1.out.cell 1
  have k2 : w1.cell? ⟨W.heap.size, 2, none⟩ = some (.int .i64 s) := HK1.out.cell 2
  have k3 : w1.cell? ⟨W.heap.size, 3, none⟩ = some (.slice A len c) := HK1.out.cell 3
  have kl := HK1.out.lt
  go_wp2_with fail
  refine (treplay_any t n s A len c ps Al ll cl l w1 w1.heap.size HLn.out hmax (HPr.out w1 HB1.out) (Nat.le_refl _) HLl.out hml (HLr.out w1 HB1.out)).mono ?_
  rintro e w2 ⟨A2, n2, c2, rfl, hn2, ho2, hb2⟩
  have HN2 := Lib.hid hn2
  have HR2 := Lib.hid (Rd.own ho2)
  have HB2 := Lib.hid (HB1.out.trans hb2)
  have HK2 := Lib.hid (HK1.out.bl hb2)
  have hm2 : n2 ≤ 9223372036854775807 := by
    have h := ho2.2
    rcases h with ⟨_, h0⟩ | ⟨_, _, _, _, _, _, h2, h1, _⟩
    · omega
    · simp only [maxLen] at h1; omega
  have HNo := Lib.hid (fun (nd : List (Int × List Int)) hr h => nodes_told (g := ⟨t, n, s, ps⟩) (xs := xs) (l := l) (nd := nd) hr h)
  have HNd := Lib.hid (fun (wx : World) (hb : Bl W wx) => rnodes_any t n s A len c ps Al ll cl l wx wx.heap.size HLn.out hmax (HPr.out wx hb) (Nat.le_refl _) HLl.out hml (HLr.out wx hb))
  clear hn2 ho2 hb2 HB1 HK1 k0 k1 k2 k3 kl
  obtain ⟨x, hx⟩ : ∃ x, x = Dv.replayOf (okB ⟨t, n, s, ps⟩) ⟨t, n, s, ps⟩ l := ⟨_, rfl⟩
  have HX := Lib.hid hx
  rw [← hx] at HN2 HR2 HNd HNo ⊢
  clear hx
  obtain ⟨v, x⟩ := x
  simp only at HN2 HR2 HNd HNo ⊢
  rcases Nat.eq_zero_or_pos x with hx0 | hx0
  case inr =>
    have q2 : ((x : Int) != 0) = true := by rw [bne_iff_ne]; omega
    clear HNd HNo
    go_wp2_with fail
    go_ret
    refine ⟨false, rfl, ⟨fun h => (by cases h), fun h => absurd hx0 ?_⟩, HB2.out⟩
    have h1 := HX.out.trans h.2.1
    injection h1 with _ h2
    omega
  subst hx0
  have HSm := Lib.hid (isame_any A2 Aw n2 lw c2 cw v xs w2 w2.heap.size HN2.out HLw.out hm2 HR2.out (HXr.out w2 HB2.out))
  by_cases hv : v = xs
  case neg =>
    rw [decide_eq_false hv] at HSm
    have HV := Lib.hid hv
    clear hv HNd HNo
    go_wp2_with fail
    refine HSm.out.mono ?_
    rintro e w3 ⟨rfl, q3, rfl⟩
    have HB3 : Hid (Bl W (w2.drewN q3)) := HB2.out.drewN _
    go_wp2_with fail
    go_ret
    refine ⟨false, rfl, ⟨fun h => (by cases h), fun h => (HV.out ?_).elim⟩, HB3.out⟩
    have h1 := HX.out.trans h.2.1
    injection h1
  rw [decide_eq_true hv] at HSm
  have hv := hv.symm
  subst hv
  go_wp2_with fail
  refine HSm.out.mono ?_
  rintro e w3 ⟨rfl, q3, rfl⟩
  have HB3 : Hid (Bl W (w2.drewN q3)) := HB2.out.drewN _
  have HK3 := Lib.hid (HK2.out.drewN q3)
  clear HSm HR2 HN2 HB2 HK2
  generalize w2.drewN q3 = w3 at *
  have k0 : w3.cell? ⟨W.heap.size, 0, none⟩ = some (.int .i64 t) := HK3.out.cell 0
  have k1 : w3.cell? ⟨W.heap.size, 1, none⟩ = some (.int .i64 n) := HK3.out.cell 1
  have k2 : w3.cell? ⟨W.heap.size, 2, none⟩ = some (.int .i64 s) := HK3.out.cell 2
  have k3 : w3.cell? ⟨W.heap.size, 3, none⟩ = some (.slice A len c) := HK3.out.cell 3
  have kl := HK3.out.lt
  go_wp2_with fail
  refine (HNd.out w3 HB3.out).mono ?_
  rintro e w4 ⟨nd, _, hnd, A4, n4, c4, rfl, hn4, hrd4, hb4⟩
  obtain ⟨ho0, ho1, ho2, ho3⟩ := HNo.out nd trivial (hnd trivial)
  have hn4b : n4 ≤ 9223372036854775806 := by rw [hn4, ho0, ← HLl.out]; exact hml
  have HOf := Lib.hid ho1
  have HGo := Lib.hid ho2
  have HOne := Lib.hid ho3
  have HB4 := Lib.hid (HB3.out.trans hb4)
  have HK4 := Lib.hid (HK3.out.bl hb4)
  have HN4 := Lib.hid hn4
  have HRd := Lib.hid hrd4
  clear hnd ho0 ho1 ho2 ho3 hb4 hn4 hrd4 HNd HNo HB3 HK3 k0 k1 k2 k3 kl
  have HKb : Hid (keepB ⟨t, n, s, ps⟩ xs.length L = true) := HCl.out.1
  have HOk : Hid (Gr.Ok ⟨t, n, s, ps⟩) := (keepB_ok HKb.out).1
  have HFew := Lib.hid (row_few HMx.out)
  have HIn := Lib.hid (fun (a : Nat) (ha : a < L.length) (y : Ch.Im) (hy : y ∈ rowI L a) => row_in HKb.out ha hy)
  obtain ⟨b2, o2, A0, c0, hA, hb2, -, -⟩ := (HSx.out w4 HB4.out).at_ (i := 0) (by have := HLs.out; have := HLq.out; omega)
  subst hA
  have HT : Hid (∀ wx, Bl W wx → TabX wx b2 o2 ls (rowI L)) := fun wx hb => by rw [HLs.out]; exact tab_of HKb.out (HSx.out wx hb) (Nat.le_refl _)
  have HWe := Lib.hid (fun (e x : Nat) (he : e < L.length) (non : Int) => whole_else HKb.out (x := x) he (non := non))
  have HWa := Lib.hid (fun (e f i : Nat) (he : e < L.length) (p : Gr.Pr) (hp : (⟨t, n, s, ps⟩ : Gr.Gm).prods[i]? = some p) => whole_anot HKb.out (f := f) he hp)
  have HIm := Lib.hid (fun (a : Nat) (y : Ch.Im) => mem_row HKb.out (a := a) (y := y))
  have HAl : Hid (AloneP ⟨t, n, s, ps⟩ xs L l ↔ ¬ OthersP ⟨t, n, s, ps⟩ (putS (doneS L L.length 0)) nd) :=
    ⟨fun h => h.2.2.2 nd HOf.out, fun h => ⟨by have h1 := HLs.out; have h2 := HLq.out; have h3 := HLw.out; omega, HX.out.symm, HCl.out, fun nd2 h2 h3 => h (by rw [← HOne.out nd2 h2]; exact h3)⟩⟩
  obtain ⟨P, hP⟩ : ∃ P, P = putS (doneS L L.length 0) := ⟨_, rfl⟩
  rw [← hP] at HWe HWa HIm HAl
  clear hP hb2
  have hl60 : len ≤ 60 := by have h1 := HOk.out.2.2.2.2.2.2.1; have h2 := HLn.out; simp only at h1; omega
  have HRl : Hid (∀ i (h : i < ps.length), ps[i].right.length ≤ 8) := fun i h => (HOk.out.2.2.2.2.2.2.2 _ (List.getElem_mem h)).2.2.1
  clear HOf HOne HCl HX HSx HMx HL1
  go_wp2_with fail
  go_loopw [13] (fun i wx => ∃ j : Nat, j ≤ n4 ∧ i = .int .i64 (j : Int) ∧ Hid (Bl w4 wx) ∧ Hid (¬ OthersP ⟨t, n, s, ps⟩ P (nd.take j))) (fun i _ => n4 - (intOf i).toNat)
  case atStart => exact ⟨0, Nat.zero_le _, rfl, Bl.refl _, by rintro ⟨_, _, h, _⟩; simp at h⟩
  case round =>
    obtain ⟨j, hj, rfl, HBr, HNt⟩ := hrel
    by_cases hlt : j < n4
    · have hjn : j < nd.length := by have := HN4.out; omega
      obtain ⟨i0, row, hz, hg⟩ := HGo.out nd[j] (List.getElem_mem hjn)
      have hi0 := hg.prod
      have hln : row.length = (ps[i0]'hi0).right.length + 1 := hg.len
      have HOt := Lib.hid (others_at hjn hz HNt.out)
      obtain ⟨bn, on, br, orr, cr, hA4, hbn, hbr, n0, n1, nc⟩ := nd_at HRd.out hjn hz (by omega)
      have HNc : Hid (∀ wx, Bl w4 wx → wx.cell? ⟨bn, on + j * 2, none⟩ = some (.int .i64 (i0 : Int)) ∧ wx.cell? ⟨bn, on + j * 2 + 1, none⟩ = some (.slice (some ⟨br, orr, none⟩) row.length cr) ∧ ∀ (k x : Nat), row[k]? = some x → wx.cell? ⟨br, orr + k, none⟩ = some (.int .i64 (x : Int))) := fun wx hb => ⟨(World.cell?_of_block (hb.block bn hbn)).trans n0, (World.cell?_of_block (hb.block bn hbn)).trans n1, fun k x hk => (World.cell?_of_block (hb.block br hbr)).trans (nc k x hk)⟩
      obtain ⟨bp, op, Ax, cx, hA, hbp, hsy, hl0, hc0⟩ := (HPr.out w4 HB4.out).at_ hi0
      have HPc : Hid (∀ wx, Bl w4 wx → wx.cell? ⟨bp, op + i0 * 2, none⟩ = some (.int .i64 (ps[i0]'hi0).left) ∧ wx.cell? ⟨bp, op + i0 * 2 + 1, none⟩ = some (.slice Ax (ps[i0]'hi0).right.length cx)) := fun wx hb => ⟨(World.cell?_of_block (hb.block bp hbp)).trans hl0, (World.cell?_of_block (hb.block bp hbp)).trans hc0⟩
      have HSy := Lib.hid hsy
      have HTok : Hid (∀ k s, (ps[i0]'hi0).right[k]? = some s → s.non = false → ∀ fd fe, row[k]? = some fd → row[k + 1]? = some fe → fe = fd + 1) := hg.tok
      have HLe : Hid (∀ x ∈ row, x ≤ xs.length) := hg.le
      have hr8 := HRl.out i0 hi0
      have hP0 : (⟨t, n, s, ps⟩ : Gr.Gm).prods[i0]? = some (ps[i0]'hi0) := List.getElem?_eq_getElem hi0
      have HP0 := Lib.hid hP0
      have hi1 : i0 < len := by have := HLn.out; omega
      subst hA4
      subst hA
      clear n0 n1 nc hl0 hc0 hsy hz hjn hP0
      have HBw := Lib.hid (HB4.out.trans HBr.out)
      have HKr := Lib.hid (HK4.out.bl HBr.out)
      obtain ⟨n0, n1, nc⟩ := HNc.out wr HBr.out
      obtain ⟨p0, p1⟩ := HPc.out wr HBr.out
      have k3 : wr.cell? ⟨W.heap.size, 3, none⟩ = some (.slice (some ⟨bp, op, none⟩) len c) := HKr.out.cell 3
      have kl := HKr.out.lt
      have hbn2 : bn < wr.heap.size := Nat.lt_of_lt_of_le hbn HBr.out.size
      have hbp2 : bp < wr.heap.size := Nat.lt_of_lt_of_le hbp HBr.out.size
      have r0 : (0 : Int) ≤ (j : Int) := by omega
      have r1 : (j : Int) < (n4 : Int) := by omega
      have r2 : (0 : Int) ≤ (i0 : Int) := by omega
      have r3 : (i0 : Int) < (len : Int) := by omega
      obtain ⟨q, hq⟩ : ∃ q, q = ps[i0]'hi0 := ⟨_, rfl⟩
      rw [← hq] at HPc HP0 p0 p1 hln hr8 HTok HSy
      have HQ := Lib.hid hq
      clear hq
      go_upto_region 10 with fail
      have HKp : Hid (Bk (wr.alloc (.cells #[.int .i64 q.left, .slice Ax q.right.length cx] 40)).drew wr.heap.size 40 #[.int .i64 q.left, .slice Ax q.right.length cx]) := (Bk.new wr _ _).drew
      have HB45 : Hid (Bl w4 (wr.alloc (.cells #[.int .i64 q.left, .slice Ax q.right.length cx] 40)).drew) := (HBr.out.alloc _).drew
      clear nc n1
      go_region
      generalize (wr.alloc (.cells #[.int .i64 q.left, .slice Ax q.right.length cx] 40)).drew = w5 at *
      generalize wr.heap.size = pb at *
      clear n0 p0 p1 k3 kl hbn2 hbp2 HBr HBw HKr
      have HB5 := Lib.hid (HB4.out.trans HB45.out)
      have HK5 := Lib.hid (HK4.out.bl HB45.out)
      have hnr : row.length = q.right.length + 1 := hln
      obtain ⟨rl, hrl⟩ : ∃ rl, rl = q.right.length := ⟨_, rfl⟩
      rw [← hrl] at HKp hr8 hnr hln
      have HRq := Lib.hid hrl
      have HNr := Lib.hid hnr
      rw [hnr] at HNc
      clear hrl
      obtain ⟨f0, hf0⟩ : ∃ f0, row[0]? = some f0 := ⟨row[0]'(by omega), List.getElem?_eq_getElem _⟩
      obtain ⟨e0, he0⟩ : ∃ e0, row[rl]? = some e0 := ⟨row[rl]'(by omega), List.getElem?_eq_getElem _⟩
      have hfx : f0 ≤ xs.length := HLe.out _ (List.mem_of_getElem? hf0)
      have hex : e0 ≤ xs.length := HLe.out _ (List.mem_of_getElem? he0)
      have hG0 : row.getD 0 0 = f0 := by rw [List.getD_eq_getElem?_getD, hf0]; rfl
      have hGe : row.getD (row.length - 1) 0 = e0 := by rw [List.getD_eq_getElem?_getD, hnr, Nat.add_sub_cancel, he0]; rfl
      have HOp : Hid (OtherP ⟨t, n, s, ps⟩ P i0 row ↔ AnotherP ⟨t, n, s, ps⟩ P i0 f0 e0 ∨ ∃ p dot s' fd fe, (⟨t, n, s, ps⟩ : Gr.Gm).prods[i0]? = some p ∧ p.right[dot]? = some s' ∧ s'.non = true ∧ row[dot]? = some fd ∧ row[dot + 1]? = some fe ∧ ElsewP ⟨t, n, s, ps⟩ P i0 dot s'.n f0 fd fe) := by
        unfold OtherP
        rw [hG0, hGe]
        exact Iff.rfl
      have HF0 := Lib.hid hf0
      have hls' : ls ≤ 1001 := by have := HLq.out; omega
      have hfl : f0 < ls := by have h1 := HLq.out; have h2 := HLw.out; omega
      have hel : e0 < ls := by have h1 := HLq.out; have h2 := HLw.out; omega
      obtain ⟨n0, n1, nc⟩ := HNc.out w5 HB45.out
      have c0 : w5.cell? ⟨br, orr, none⟩ = some (.int .i64 (f0 : Int)) := nc 0 f0 hf0
      have ce : w5.cell? ⟨br, orr + rl, none⟩ = some (.int .i64 (e0 : Int)) := nc _ _ he0
      have hbn5 : bn < w5.heap.size := Nat.lt_of_lt_of_le hbn HB45.out.size
      have hbr5 : br < w5.heap.size := Nat.lt_of_lt_of_le hbr HB45.out.size
      have s0 : (0 : Int) < ((rl + 1 : Nat) : Int) := by omega
      have s1 : 0 < rl + 1 := by omega
      have s2 : (0 : Int) < (rl : Int) + 1 := by omega
      clear nc hnr hG0 hGe hf0 he0 hln
      go_upto_region 13 with fail
      have hrl9 : rl ≤ 100000 := Nat.le_trans hr8 (by decide)
      have i2 : (0 : Int) ≤ (rl : Int) := i_nn rl
      have i5 : (rl : Int) < (rl : Int) + 1 := i_suc rl
      have i6 : rl < rl + 1 := Nat.lt_succ_self rl
      have i3 : (0 : Int) ≤ (e0 : Int) := i_nn e0
      have i4 : (e0 : Int) < (ls : Int) := i_lt hel
      obtain ⟨tlt, hrow⟩ := HT.out w5 HB5.out
      obtain ⟨Ai, ci, z0, hri⟩ := hrow e0 hel
      have hle := HFew.out e0
      have HWh := Lib.hid (fun (wx : World) (hb : Bl w5 wx) => whole_any t n s (some ⟨bp, op, none⟩) len c ps Ai (rowI L e0).length ci (rowI L e0) q.left (f0 : Int) (i0 : Int) wx wx.heap.size HLn.out (HPr.out wx (HB5.out.trans hb)) rfl (by omega) ((hri.bl (Nat.le_refl _) hb).more hb.size) (Nat.le_refl _) (fun y hy => by obtain ⟨⟨p, hp, _⟩, _⟩ := HIn.out e0 (by have := HLs.out; omega) y hy; exact Ch.lt_of_get hp))
      have HWi : Hid (WholeP ps (rowI L e0) q.left (f0 : Int) (i0 : Int) ↔ AnotherP ⟨t, n, s, ps⟩ P i0 f0 e0) := HWa.out e0 f0 i0 (by have := HLs.out; omega) q HP0.out
      have HBd : Hid (Bl w5 w5.drew) := (Bl.refl w5).drew
      generalize (rowI L e0).length = ni at *
      have HPx : Hid (∀ wx, Bl w5 wx → (fun wx => wx.cell? ⟨W.heap.size, 0, none⟩ = some (.int .i64 t) ∧ wx.cell? ⟨W.heap.size, 1, none⟩ = some (.int .i64 n) ∧ wx.cell? ⟨W.heap.size, 2, none⟩ = some (.int .i64 s) ∧ wx.cell? ⟨W.heap.size, 3, none⟩ = some (.slice (some ⟨bp, op, none⟩) len c) ∧ wx.cell? ⟨b2, o2 + e0, none⟩ = some (.slice Ai ni ci) ∧ wx.cell? ⟨bn, on + j * 2, none⟩ = some (.int .i64 (i0 : Int)) ∧ wx.cell? ⟨br, orr + rl, none⟩ = some (.int .i64 (e0 : Int)) ∧ wx.cell? ⟨pb, 0, none⟩ = some (.int .i64 q.left)) wx) := fun wx hb => by
        have h1 := HK5.out.bl hb
        exact ⟨h1.cell 0, h1.cell 1, h1.cell 2, h1.cell 3, (Below.cell hb (p := ⟨b2, o2 + e0, none⟩) tlt).trans z0, (Below.cell hb (p := ⟨bn, on + j * 2, none⟩) hbn5).trans n0, (Below.cell hb (p := ⟨br, orr + rl, none⟩) hbr5).trans ce, (HKp.out.bl hb).cell 0⟩
      have tk1 : True := trivial
      clear z0 hri hrow n0 n1 c0 ce
      have i1 : IntKind.i64.wrap (((rl + 1 : Nat) : Int) - 1) = (rl : Int) := i_wrapa hrl9
      have i1b : IntKind.i64.wrap ((rl : Int) + 1 - 1) = (rl : Int) := i_wrapb hrl9
      have i1c : IntKind.i64.wrap (rl : Int) = (rl : Int) := i_wrapc hrl9
      have i1d : wrap64 (rl : Int) = (rl : Int) := i_wrapd hrl9
      go_region_held3 (fun wx => wx.cell? ⟨W.heap.size, 0, none⟩ = some (.int .i64 t) ∧ wx.cell? ⟨W.heap.size, 1, none⟩ = some (.int .i64 n) ∧ wx.cell? ⟨W.heap.size, 2, none⟩ = some (.int .i64 s) ∧ wx.cell? ⟨W.heap.size, 3, none⟩ = some (.slice (some ⟨bp, op, none⟩) len c) ∧ wx.cell? ⟨b2, o2 + e0, none⟩ = some (.slice Ai ni ci) ∧ wx.cell? ⟨bn, on + j * 2, none⟩ = some (.int .i64 (i0 : Int)) ∧ wx.cell? ⟨br, orr + rl, none⟩ = some (.int .i64 (e0 : Int)) ∧ wx.cell? ⟨pb, 0, none⟩ = some (.int .i64 q.left)) (first | exact HPx.out _ HBd.out | exact HPx.out _ HB7.out) (first
        | (go_at_call 30; have _t := tk1; ((with_reducible refine (HWh.out _ HBd.out).mono ?_); rintro e w7 ⟨b7, rfl, hi7, hb7⟩; have HB7 : Hid (Bl w5 w7) := HBd.out.trans hb7; have HI7 := Lib.hid hi7; clear tk1 hb7 hi7))
        | fail)
      have HB47 := Lib.hid (HB45.out.trans HB7.out)
      clear HPx HWh HBd i1 i1b i1c i1d
      cases b7 with
      | true =>
        have HN : Hid (¬ AloneP ⟨t, n, s, ps⟩ xs L l) := fun h => HAl.out.1 h (HOt.out.1 (HOp.out.2 (.inl (HWi.out.1 (HI7.out.1 rfl)))))
        have HBx := Lib.hid (HB4.out.trans HB47.out)
        go_wp2_with fail
        go_ret
        exact .inl ⟨rfl, HN.out, HBx.out⟩
      | false =>
      have HNa : Hid (¬ AnotherP ⟨t, n, s, ps⟩ P i0 f0 e0) := fun h => by have := HI7.out.2 (HWi.out.2 h); cases this
      have HKp7 := Lib.hid (HKp.out.bl HB7.out)
      have HKg7 := Lib.hid (HK5.out.bl HB7.out)
      clear HI7 HWi HB7 HB5 HK5 HKp HB45
      go_wp2_with fail
      have HNe : Hid (¬ OtherP ⟨t, n, s, ps⟩ P i0 row → ¬ OthersP ⟨t, n, s, ps⟩ P (nd.take (j + 1))) := HOt.out.2
      go_loopw [17] (fun i wx => ∃ k : Nat, k ≤ rl ∧ i = .int .i64 (k : Int) ∧ Hid (Bl w7 wx) ∧ Hid (∀ (dot : Nat) (s' : Gr.Sy), dot < k → q.right[dot]? = some s' → s'.non = true → ∀ fd fe, row[dot]? = some fd → row[dot + 1]? = some fe → ¬ ElsewP ⟨t, n, s, ps⟩ P i0 dot s'.n f0 fd fe)) (fun i _ => rl - (intOf i).toNat)
      case atStart => exact ⟨0, Nat.zero_le _, rfl, Bl.refl _, fun dot s' hd => absurd hd (Nat.not_lt_zero _)⟩
      case round =>
        obtain ⟨k, hk, rfl, HBk, HNk⟩ := hrel
        have HB4k := Lib.hid (HB47.out.trans HBk.out)
        have HKpr := Lib.hid (HKp7.out.bl HBk.out)
        have y1 : wr.cell? ⟨pb, 1, none⟩ = some (.slice Ax rl cx) := HKpr.out.cell 1
        have yl := HKpr.out.lt
        by_cases hkl : k < rl
        · have hkq : k < q.right.length := by rw [← HRq.out]; exact hkl
          obtain ⟨fd, hfd⟩ : ∃ fd, row[k]? = some fd := ⟨row[k]'(by rw [HNr.out]; omega), List.getElem?_eq_getElem _⟩
          obtain ⟨fe, hfe⟩ : ∃ fe, row[k + 1]? = some fe := ⟨row[k + 1]'(by rw [HNr.out]; omega), List.getElem?_eq_getElem _⟩
          obtain ⟨bo, oo, hAx, hbo, y2, y3⟩ := HSy.out.sym hkq
          have HSk : Hid (q.right[k]? = some q.right[k]) := List.getElem?_eq_getElem hkq
          have HTk : Hid (q.right[k].non = false → fe = fd + 1) := fun h => HTok.out k _ HSk.out h fd fe hfd hfe
          generalize q.right[k] = s' at *
          have HYc : Hid (∀ wx, Bl w4 wx → wx.cell? ⟨bo, oo + k * 2, none⟩ = some (.bool s'.non) ∧ wx.cell? ⟨bo, oo + k * 2 + 1, none⟩ = some (.int .i64 s'.n)) := fun wx hb => ⟨(World.cell?_of_block (hb.block bo hbo)).trans y2, (World.cell?_of_block (hb.block bo hbo)).trans y3⟩
          have HFd := Lib.hid hfd
          have HFe := Lib.hid hfe
          have hex2 : fe ≤ xs.length := HLe.out _ (List.mem_of_getElem? hfe)
          have hfel : fe < ls := by have h1 := HLq.out; have h2 := HLw.out; omega
          have ce : wr.cell? ⟨br, orr + (k + 1), none⟩ = some (.int .i64 (fe : Int)) := (HNc.out wr HB4k.out).2.2 _ _ hfe
          have HK1 : Hid (∀ fd' fe', row[k]? = some fd' → row[k + 1]? = some fe' → fd' = fd ∧ fe' = fe) := fun fd' fe' h1 h2 => ⟨Option.some.inj (h1.symm.trans HFd.out), Option.some.inj (h2.symm.trans HFe.out)⟩
          have hbr5 : br < wr.heap.size := Nat.lt_of_lt_of_le hbr HB4k.out.size
          have hk9 : k ≤ 100000 := by omega
          have v0 : (0 : Int) ≤ (k : Int) := i_nn k
          have v1 : (k : Int) < (rl : Int) := i_lt hkl
          have v2 : (0 : Int) ≤ (k : Int) + 1 := by omega
          have v3 : (k : Int) + 1 < (rl : Int) + 1 := by omega
          have v4 : k + 1 < rl + 1 := by omega
          have v5 : IntKind.i64.wrap ((k : Int) + 1) = (k : Int) + 1 := i_wraps hk9
          clear hkq y2 y3 hfd hfe
          go_wp2_with fail
          clear v5 v3 v2 v4 ce y1 yl
          subst hAx
          obtain ⟨w8, hw8⟩ : ∃ w8 : World, w8 = wr := ⟨_, rfl⟩
          subst hw8
          go_loopw [19] (fun iv wx => ∃ m : Nat, f0 ≤ m ∧ m ≤ 1001 ∧ iv = .int .i64 (m : Int) ∧ Hid (Bl w8 wx) ∧ Hid (∀ m', f0 ≤ m' → m' < m → m' ≤ fe → m' ≠ fd → (m', (⟨i0, k, f0⟩ : Ch.Im)) ∈ P → s'.non = true → (s'.n, m', fe) ∉ Ch.endL ⟨t, n, s, ps⟩ P)) (fun iv _ => fe + 1 - (intOf iv).toNat)
          case atStart => exact ⟨f0, Nat.le_refl _, by omega, rfl, Bl.refl _, fun m' h1 h2 => absurd h2 (Nat.not_lt.2 h1)⟩
          case round =>
            obtain ⟨m, hm0, hm1, rfl, HBm, HNm⟩ := hrel
            by_cases hle : m ≤ fe
            · have hle2 : (m : Int) ≤ (fe : Int) := i_le hle
              have hml : m < ls := Nat.lt_of_le_of_lt hle hfel
              have HB4m := Lib.hid (HB4k.out.trans HBm.out)
              have HB0m := Lib.hid (HB4.out.trans HB4m.out)
              obtain ⟨n0, n1, nc⟩ := HNc.out wr HB4m.out
              have cd : wr.cell? ⟨br, orr + k, none⟩ = some (.int .i64 (fd : Int)) := nc _ _ HFd.out
              have hbr5 : br < wr.heap.size := Nat.lt_of_lt_of_le hbr HB4m.out.size
              have hbn5 : bn < wr.heap.size := Nat.lt_of_lt_of_le hbn HB4m.out.size
              have v6 : (k : Int) < (rl : Int) + 1 := by omega
              have v7 : k < rl + 1 := by omega
              clear nc n1
              have HGo : Hid ((m ≠ fd → (m, (⟨i0, k, f0⟩ : Ch.Im)) ∈ P → s'.non = true → (s'.n, m, fe) ∉ Ch.endL ⟨t, n, s, ps⟩ P) → ∀ m', f0 ≤ m' → m' < m + 1 → m' ≤ fe → m' ≠ fd → (m', (⟨i0, k, f0⟩ : Ch.Im)) ∈ P → s'.non = true → (s'.n, m', fe) ∉ Ch.endL ⟨t, n, s, ps⟩ P) := fun h m' h1 h2 h3 h4 h5 h6 => by
                rcases Nat.lt_or_ge m' m with h7 | h7
                · exact HNm.out m' h1 h7 h3 h4 h5 h6
                · have e : m' = m := by omega
                  subst e
                  exact h h4 h5 h6
              by_cases hmd : m = fd
              · have d1 : ((m : Int) == (fd : Int)) = true := by rw [hmd]; simp
                have d4 : (m == fd) = true := by rw [hmd]; simp
                have d6 : decide (m = fd) = true := decide_eq_true hmd
                have d7 : decide ((m : Int) = (fd : Int)) = true := decide_eq_true (by rw [hmd])
                have HMd := Lib.hid hmd
                clear hmd
                go_upto_region 22 with fail
                go_quiet (fail)
                go_wp2_with fail
                go_roundw
                case rel => exact ⟨m + 1, by omega, by omega, by go_num, HBm.out.drewN _, HGo.out fun h => absurd HMd.out h⟩
                case measure => simp [intOf]; omega
              have d1 : ((m : Int) == (fd : Int)) = false := by rw [beq_eq_false_iff_ne]; omega
              have d4 : (m == fd) = false := by rw [beq_eq_false_iff_ne]; exact hmd
              have d6 : decide (m = fd) = false := decide_eq_false hmd
              have d7 : decide ((m : Int) = (fd : Int)) = false := decide_eq_false (by omega)
              have HMd := Lib.hid hmd
              obtain ⟨tlt, hrow⟩ := HT.out wr HB0m.out
              obtain ⟨Aj, cj, z0, hri⟩ := hrow m hml
              have hlj := HFew.out m
              have HBd : Hid (Bl wr wr.drew) := (Bl.refl wr).drew
              have HHas : Hid (Calls Try.prog 20 #[.slice Aj (rowI L m).length cj, .agg #[.int .i64 (i0 : Int), .int .i64 (k : Int), .int .i64 (f0 : Int)]] wr.drew fun e w' => e = .returned (.bool (decide ((⟨i0, k, f0⟩ : Ch.Im) ∈ rowI L m))) ∧ Bl wr.drew w') := rhasm_any Aj (rowI L m).length cj (rowI L m) ⟨i0, k, f0⟩ wr.drew wr.heap.size rfl (by omega) (hri.bl (Nat.le_refl _) HBd.out) HBd.out.size
              have HIn9 : Hid ((m, (⟨i0, k, f0⟩ : Ch.Im)) ∈ P ↔ (⟨i0, k, f0⟩ : Ch.Im) ∈ rowI L m) := ⟨fun h => ((HIm.out _ _).1 h).2, fun h => (HIm.out _ _).2 ⟨by have := HLs.out; omega, h⟩⟩
              generalize (rowI L m).length = nj at *
              have HPx : Hid (∀ wx, Bl wr wx → (fun wx => wx.cell? ⟨br, orr + k, none⟩ = some (.int .i64 (fd : Int)) ∧ wx.cell? ⟨b2, o2 + m, none⟩ = some (.slice Aj nj cj) ∧ wx.cell? ⟨bn, on + j * 2, none⟩ = some (.int .i64 (i0 : Int))) wx) := fun wx hb => ⟨(Below.cell hb (p := ⟨br, orr + k, none⟩) hbr5).trans cd, (Below.cell hb (p := ⟨b2, o2 + m, none⟩) tlt).trans z0, (Below.cell hb (p := ⟨bn, on + j * 2, none⟩) hbn5).trans n0⟩
              have v8 : (0 : Int) ≤ (m : Int) := i_nn m
              have v9 : (m : Int) < (ls : Int) := i_lt hml
              have tk1 : True := trivial
              clear z0 hri hrow n0 cd hmd
              go_upto_region 22 with fail
              by_cases hin : (⟨i0, k, f0⟩ : Ch.Im) ∈ rowI L m
              case neg =>
                rw [decide_eq_false hin] at HHas
                have HG1 := Lib.hid (HGo.out fun _ h => absurd (HIn9.out.1 h) hin)
                clear hin
                go_region_held3 (fun wx => wx.cell? ⟨br, orr + k, none⟩ = some (.int .i64 (fd : Int)) ∧ wx.cell? ⟨b2, o2 + m, none⟩ = some (.slice Aj nj cj) ∧ wx.cell? ⟨bn, on + j * 2, none⟩ = some (.int .i64 (i0 : Int))) (first | exact HPx.out _ HBd.out | exact HPx.out _ HB9.out) (first
                  | (go_at_call 20; have _t := tk1; ((with_reducible refine HHas.out.mono ?_); rintro e w9 ⟨rfl, hb9⟩; have HB9 : Hid (Bl wr w9) := HBd.out.trans hb9; clear tk1 hb9))
                  | fail)
                have HBx := Lib.hid (HBm.out.trans HB9.out)
                go_wp2_with fail
                go_roundw
                case rel => exact ⟨m + 1, by omega, by omega, by go_num, HBx.out, HG1.out⟩
                case measure => simp [intOf]; omega
              rw [decide_eq_true hin] at HHas
              have HInP := Lib.hid (HIn9.out.2 hin)
              clear hin HIn9
              go_region_held3 (fun wx => wx.cell? ⟨br, orr + k, none⟩ = some (.int .i64 (fd : Int)) ∧ wx.cell? ⟨b2, o2 + m, none⟩ = some (.slice Aj nj cj) ∧ wx.cell? ⟨bn, on + j * 2, none⟩ = some (.int .i64 (i0 : Int))) (first | exact HPx.out _ HBd.out | exact HPx.out _ HB9.out) (first
                | (go_at_call 20; have _t := tk1; ((with_reducible refine HHas.out.mono ?_); rintro e w9 ⟨rfl, hb9⟩; have HB9 : Hid (Bl wr w9) := HBd.out.trans hb9; clear tk1 hb9))
                | fail)
              have HB49 := Lib.hid (HB4m.out.trans HB9.out)
              have HB09 := Lib.hid (HB0m.out.trans HB9.out)
              have HB89 := Lib.hid (HBm.out.trans HB9.out)
              have HKp9 := Lib.hid (HKp7.out.bl (HBk.out.trans HB89.out))
              have HKg9 := Lib.hid (HKg7.out.bl (HBk.out.trans HB89.out))
              clear HPx HHas HBd HB9 HBm HB4m HB0m tlt hlj hbr5 hbn5 d1 d4 d6 d7
              obtain ⟨y2, y3⟩ := HYc.out w9 HB49.out
              have y1 : w9.cell? ⟨pb, 1, none⟩ = some (.slice (some ⟨bo, oo, none⟩) rl cx) := HKp9.out.cell 1
              have yl := HKp9.out.lt
              have hbo9 : bo < w9.heap.size := Nat.lt_of_lt_of_le hbo HB49.out.size
              have HXs : Hid (Bk (w9.alloc (.cells #[.bool s'.non, .int .i64 s'.n] 37)) w9.heap.size 37 #[.bool s'.non, .int .i64 s'.n]) := Bk.new w9 _ _
              have HBs : Hid (Bl w9 (w9.alloc (.cells #[.bool s'.non, .int .i64 s'.n] 37))) := (Bl.refl w9).alloc _
              go_upto_region 24 with fail
              generalize w9.alloc (.cells #[.bool s'.non, .int .i64 s'.n] 37) = w10 at *
              generalize w9.heap.size = sb at *
              clear y1 y2 y3 yl hbo9
              have HB0x := Lib.hid (HB09.out.trans HBs.out)
              have HB8x := Lib.hid (HB89.out.trans HBs.out)
              have HKgx := Lib.hid (HKg9.out.bl HBs.out)
              obtain ⟨tlt, hrow⟩ := HT.out w10 HB0x.out
              obtain ⟨Af, cf, z0, hri⟩ := hrow fe hfel
              have hlf := HFew.out fe
              have HWh := Lib.hid (fun (wx : World) (hb : Bl w10 wx) => whole_any t n s (some ⟨bp, op, none⟩) len c ps Af (rowI L fe).length cf (rowI L fe) s'.n (m : Int) (-1) wx wx.heap.size HLn.out (HPr.out wx (HB0x.out.trans hb)) rfl (by omega) ((hri.bl (Nat.le_refl _) hb).more hb.size) (Nat.le_refl _) (fun y hy => by obtain ⟨⟨p, hp, _⟩, _⟩ := HIn.out fe (by have := HLs.out; omega) y hy; exact Ch.lt_of_get hp))
              have HWi : Hid (WholeP ps (rowI L fe) s'.n (m : Int) (-1) ↔ (s'.n, m, fe) ∈ Ch.endL ⟨t, n, s, ps⟩ P) := HWe.out fe m (by have := HLs.out; omega) s'.n
              have HBd : Hid (Bl w10 w10.drew) := (Bl.refl w10).drew
              generalize (rowI L fe).length = nf at *
              generalize WholeP ps (rowI L fe) s'.n (m : Int) (-1) = WP at *
              obtain ⟨bq, hbq⟩ : ∃ b : Bool, b = true ↔ s'.non = true ∧ WP := by
                by_cases h : s'.non = true ∧ WP
                · exact ⟨true, fun _ => h, fun _ => rfl⟩
                · exact ⟨false, fun h2 => (by cases h2), fun h2 => (h h2).elim⟩
              have HBq := Lib.hid hbq
              have HC : Hid (∀ wx, Bl w10 wx → (fun wx => wx.cell? ⟨W.heap.size, 0, none⟩ = some (.int .i64 t) ∧ wx.cell? ⟨W.heap.size, 1, none⟩ = some (.int .i64 n) ∧ wx.cell? ⟨W.heap.size, 2, none⟩ = some (.int .i64 s) ∧ wx.cell? ⟨W.heap.size, 3, none⟩ = some (.slice (some ⟨bp, op, none⟩) len c) ∧ wx.cell? ⟨b2, o2 + fe, none⟩ = some (.slice Af nf cf) ∧ wx.cell? ⟨sb, 0, none⟩ = some (.bool s'.non) ∧ wx.cell? ⟨sb, 1, none⟩ = some (.int .i64 s'.n)) wx) := fun wx hb => by
                have h1 := HKgx.out.bl hb
                have h2 := HXs.out.bl hb
                exact ⟨h1.cell 0, h1.cell 1, h1.cell 2, h1.cell 3, (Below.cell hb (p := ⟨b2, o2 + fe, none⟩) tlt).trans z0, h2.cell 0, h2.cell 1⟩
              have u0 : (0 : Int) ≤ (fe : Int) := i_nn fe
              have u1 : (fe : Int) < (ls : Int) := i_lt hfel
              clear z0 hri hrow hbq hlf tlt
              generalize Value.agg #[.bool s'.non, .int .i64 s'.n] = v140
              go_cut [173] from 141 to 173 (fun v wx => v = .bool bq ∧ Hid (Bl w10 wx))
              case first =>
                rcases hsn : s'.non with _ | _
                · have HBf : Hid (bq = false) := by
                    show _ = _
                    cases bq with
                    | false => rfl
                    | true => have := (HBq.out.1 rfl).1; rw [hsn] at this; cases this
                  have hfe2 : fe = fd + 1 := HTk.out hsn
                  have d1 : ((fe : Int) == (m : Int) + 1) = false := by rw [beq_eq_false_iff_ne]; have := HMd.out; omega
                  have d2 : decide ((fe : Int) = (m : Int) + 1) = false := decide_eq_false (by have := HMd.out; omega)
                  have d3 : (fe == m + 1) = false := by rw [beq_eq_false_iff_ne]; have := HMd.out; omega
                  rw [hsn] at HXs
                  have y0 : w10.cell? ⟨sb, 0, none⟩ = some (.bool false) := HXs.out.cell 0
                  have yl := HXs.out.lt
                  have v5 : IntKind.i64.wrap ((m : Int) + 1) = (m : Int) + 1 := i_wraps (Nat.le_trans hm1 (by decide))
                  have v6 : wrap64 ((m : Int) + 1) = (m : Int) + 1 := i_wrapt (Nat.le_trans hm1 (by decide))
                  clear HC HWh hsn hfe2
                  go_quiet (fail)
                  go_wp2_with fail
                  go_meet
                  exact ⟨by rw [HBf.out], (Bl.refl w10).drewN _⟩
                · rw [hsn] at HXs HC
                  by_cases hw : WP
                  · have HBf : Hid (bq = true) := HBq.out.2 ⟨hsn, hw⟩
                    have HWt : Hid (∀ wx, Bl w10 wx → Calls Try.prog 30 #[.agg #[.int .i64 t, .int .i64 n, .int .i64 s, .slice (some ⟨bp, op, none⟩) len c], .slice Af nf cf, .int .i64 s'.n, .int .i64 (m : Int), .int .i64 (-1)] wx fun e w' => e = .returned (.bool true) ∧ Bl wx w') := fun wx hb => (HWh.out wx hb).mono (by
                      rintro e w' ⟨b, rfl, hi, hb'⟩
                      rw [hi.2 hw]
                      exact ⟨rfl, hb'⟩)
                    clear HWh hsn hw
                    refine wp_region_held_drew (S := (fun wx => wx.cell? ⟨W.heap.size, 0, none⟩ = some (.int .i64 t) ∧ wx.cell? ⟨W.heap.size, 1, none⟩ = some (.int .i64 n) ∧ wx.cell? ⟨W.heap.size, 2, none⟩ = some (.int .i64 s) ∧ wx.cell? ⟨W.heap.size, 3, none⟩ = some (.slice (some ⟨bp, op, none⟩) len c) ∧ wx.cell? ⟨b2, o2 + fe, none⟩ = some (.slice Af nf cf) ∧ wx.cell? ⟨sb, 0, none⟩ = some (.bool true) ∧ wx.cell? ⟨sb, 1, none⟩ = some (.int .i64 s'.n))) (by kernel_rfl) (HC.out _ HBd.out) (fun hHeld => ?_)
                    refine wpAnyH_take (i := 0) (oi := ({ dst := some 141, op := Op.fieldAddr 37 (Operand.tmp 20) 0, type := 0, pos := "ref.go:88", after := #[], guard := none } : Oper)) (v := ?_) rfl (by kernel_rfl) (by kernel_rfl) (by kernel_rfl) (fun _ _ _ h => h) (Or.inl ⟨by rfl, ?_⟩) hHeld ?_
                    rotate_left
                    · (intro w hSw; (try dsimp only at hSw); go_simp) <;> with_reducible rfl
                    try simp only [Act.put, List.setIfInBounds_toArray, List.set_cons_zero, List.set_cons_succ]
                    refine wpAnyH_take (i := 1) (oi := ({ dst := some 142, op := Op.load 4 (Operand.tmp 141), type := 4, pos := "ref.go:88", after := #[{ on := 0, ground := Ground.data }], guard := none } : Oper)) (v := ?_) rfl (by kernel_rfl) (by kernel_rfl) (by kernel_rfl) (fun _ _ _ h => h) (Or.inl ⟨by rfl, ?_⟩) hHeld ?_
                    rotate_left
                    · (intro w hSw; (try dsimp only at hSw); go_simp) <;> with_reducible rfl
                    try simp only [Act.put, List.setIfInBounds_toArray, List.set_cons_zero, List.set_cons_succ]
                    refine wpAnyH_take (i := 2) (oi := ({ dst := some 143, op := Op.move (Operand.tmp 142), type := 4, pos := "ref.go:88", after := #[{ on := 1, ground := Ground.data }], guard := none } : Oper)) (v := ?_) rfl (by kernel_rfl) (by kernel_rfl) (by kernel_rfl) (fun _ _ _ h => h) (Or.inl ⟨by rfl, ?_⟩) hHeld ?_
                    rotate_left
                    · (intro w hSw; (try dsimp only at hSw); go_simp) <;> with_reducible rfl
                    try simp only [Act.put, List.setIfInBounds_toArray, List.set_cons_zero, List.set_cons_succ]
                    refine wpAnyH_take (i := 3) (oi := ({ dst := some 144, op := Op.load 24 (Operand.tmp 4), type := 24, pos := "ref.go:88", after := #[{ on := 2, ground := Ground.guard }], guard := some (2, true) } : Oper)) (v := ?_) rfl (by kernel_rfl) (by kernel_rfl) (by kernel_rfl) (fun _ _ _ h => h) (Or.inl ⟨by rfl, ?_⟩) hHeld ?_
                    rotate_left
                    · (intro w hSw; (try dsimp only at hSw); go_simp) <;> with_reducible rfl
                    try simp only [Act.put, List.setIfInBounds_toArray, List.set_cons_zero, List.set_cons_succ]
                    refine wpAnyH_take (i := 4) (oi := ({ dst := some 145, op := Op.move (Operand.tmp 2), type := 26, pos := "ref.go:88", after := #[{ on := 2, ground := Ground.guard }], guard := some (2, true) } : Oper)) (v := ?_) rfl (by kernel_rfl) (by kernel_rfl) (by kernel_rfl) (fun _ _ _ h => h) (Or.inl ⟨by rfl, ?_⟩) hHeld ?_
                    rotate_left
                    · (intro w hSw; (try dsimp only at hSw); go_simp) <;> with_reducible rfl
                    try simp only [Act.put, List.setIfInBounds_toArray, List.set_cons_zero, List.set_cons_succ]
                    refine wpAnyH_take (i := 5) (oi := ({ dst := some 146, op := Op.move (Operand.tmp 18), type := 3, pos := "ref.go:88", after := #[{ on := 2, ground := Ground.guard }], guard := some (2, true) } : Oper)) (v := ?_) rfl (by kernel_rfl) (by kernel_rfl) (by kernel_rfl) (fun _ _ _ h => h) (Or.inl ⟨by rfl, ?_⟩) hHeld ?_
                    rotate_left
                    · (intro w hSw; (try dsimp only at hSw); go_simp) <;> with_reducible rfl
                    try simp only [Act.put, List.setIfInBounds_toArray, List.set_cons_zero, List.set_cons_succ]
                    refine wpAnyH_take (i := 6) (oi := ({ dst := some 147, op := Op.indexAddr 26 (Operand.tmp 145) (Operand.tmp 146), type := 0, pos := "ref.go:88", after := #[{ on := 4, ground := Ground.data }, { on := 5, ground := Ground.data }, { on := 2, ground := Ground.guard }], guard := some (2, true) } : Oper)) (v := ?_) rfl (by kernel_rfl) (by kernel_rfl) (by kernel_rfl) (fun _ _ _ h => h) (Or.inl ⟨by rfl, ?_⟩) hHeld ?_
                    rotate_left
                    · (intro w hSw; (try dsimp only at hSw); go_simp) <;> with_reducible rfl
                    try simp only [Act.put, List.setIfInBounds_toArray, List.set_cons_zero, List.set_cons_succ]
                    refine wpAnyH_take (i := 7) (oi := ({ dst := some 148, op := Op.load 34 (Operand.tmp 147), type := 34, pos := "ref.go:88", after := #[{ on := 6, ground := Ground.data }, { on := 2, ground := Ground.guard }], guard := some (2, true) } : Oper)) (v := ?_) rfl (by kernel_rfl) (by kernel_rfl) (by kernel_rfl) (fun _ _ _ h => h) (Or.inl ⟨by rfl, ?_⟩) hHeld ?_
                    rotate_left
                    · (intro w hSw; (try dsimp only at hSw); go_simp) <;> with_reducible rfl
                    try simp only [Act.put, List.setIfInBounds_toArray, List.set_cons_zero, List.set_cons_succ]
                    refine wpAnyH_take (i := 8) (oi := ({ dst := some 149, op := Op.fieldAddr 37 (Operand.tmp 20) 1, type := 0, pos := "ref.go:88", after := #[{ on := 2, ground := Ground.guard }], guard := some (2, true) } : Oper)) (v := ?_) rfl (by kernel_rfl) (by kernel_rfl) (by kernel_rfl) (fun _ _ _ h => h) (Or.inl ⟨by rfl, ?_⟩) hHeld ?_
                    rotate_left
                    · (intro w hSw; (try dsimp only at hSw); go_simp) <;> with_reducible rfl
                    try simp only [Act.put, List.setIfInBounds_toArray, List.set_cons_zero, List.set_cons_succ]
                    refine wpAnyH_take (i := 9) (oi := ({ dst := some 150, op := Op.load 3 (Operand.tmp 149), type := 3, pos := "ref.go:88", after := #[{ on := 8, ground := Ground.data }, { on := 2, ground := Ground.guard }], guard := some (2, true) } : Oper)) (v := ?_) rfl (by kernel_rfl) (by kernel_rfl) (by kernel_rfl) (fun _ _ _ h => h) (Or.inl ⟨by rfl, ?_⟩) hHeld ?_
                    rotate_left
                    · (intro w hSw; (try dsimp only at hSw); go_simp) <;> with_reducible rfl
                    try simp only [Act.put, List.setIfInBounds_toArray, List.set_cons_zero, List.set_cons_succ]
                    refine wpAnyH_take (i := 10) (oi := ({ dst := some 151, op := Op.move (Operand.tmp 19), type := 3, pos := "ref.go:88", after := #[{ on := 2, ground := Ground.guard }], guard := some (2, true) } : Oper)) (v := ?_) rfl (by kernel_rfl) (by kernel_rfl) (by kernel_rfl) (fun _ _ _ h => h) (Or.inl ⟨by rfl, ?_⟩) hHeld ?_
                    rotate_left
                    · (intro w hSw; (try dsimp only at hSw); go_simp) <;> with_reducible rfl
                    try simp only [Act.put, List.setIfInBounds_toArray, List.set_cons_zero, List.set_cons_succ]
                    refine wpAnyH_ready (rs := [11]) (by kernel_rfl) (by simp) ?_
                    refine AllReadyH.cons (o := ({ dst := some 152, op := Op.call { callee := Callee.value (Operand.func 30), args := #[Operand.tmp 144, Operand.tmp 148, Operand.tmp 150, Operand.tmp 151, Operand.const (Value.int IntKind.i64 (-1))], argTypes := #[24, 34, 3, 3, 3] }, type := 4, pos := "ref.go:88", after := #[{ on := 3, ground := Ground.data }, { on := 7, ground := Ground.data }, { on := 9, ground := Ground.data }, { on := 10, ground := Ground.data }, { on := 2, ground := Ground.chain }, { on := 2, ground := Ground.guard }], guard := some (2, true) } : Oper)) rfl (fun K hK => ?_) (AllReadyH.nil)
                    go_simp
                    ((with_reducible refine (HWt.out _ HBd.out).mono ?_); rintro e w11 ⟨rfl, hb5⟩)
                    have HB11 : Hid (Bl w10 w11) := HBd.out.trans hb5
                    clear hb5
                    go_wp2_with fail
                    refine hK.out _ _ (HC.out _ HB11.out) (fun hHeld => ?_)
                    clear hK K
                    try simp only [Act.put, List.setIfInBounds_toArray, List.set_cons_zero, List.set_cons_succ]
                    refine wpAnyH_take (i := 12) (oi := ({ dst := some 153, op := Op.pick (Operand.tmp 143) (Operand.tmp 152) (Operand.const (Value.bool false)), type := 4, pos := "ref.go:88", after := #[{ on := 2, ground := Ground.data }, { on := 11, ground := Ground.data }], guard := none } : Oper)) (v := ?_) rfl (by kernel_rfl) (by kernel_rfl) (by kernel_rfl) (fun _ _ _ h => h) (Or.inl ⟨by rfl, ?_⟩) hHeld ?_
                    rotate_left
                    · (intro w hSw; (try dsimp only at hSw); go_simp) <;> with_reducible rfl
                    try simp only [Act.put, List.setIfInBounds_toArray, List.set_cons_zero, List.set_cons_succ]
                    refine wpAnyH_take (i := 13) (oi := ({ dst := some 154, op := Op.move (Operand.tmp 153), type := 4, pos := "ref.go:88", after := #[{ on := 12, ground := Ground.data }, { on := 11, ground := Ground.chain }], guard := none } : Oper)) (v := ?_) rfl (by kernel_rfl) (by kernel_rfl) (by kernel_rfl) (fun _ _ _ h => h) (Or.inl ⟨by rfl, ?_⟩) hHeld ?_
                    rotate_left
                    · (intro w hSw; (try dsimp only at hSw); go_simp) <;> with_reducible rfl
                    try simp only [Act.put, List.setIfInBounds_toArray, List.set_cons_zero, List.set_cons_succ]
                    refine wpAnyH_take (i := 14) (oi := ({ dst := some 155, op := Op.fieldAddr 37 (Operand.tmp 20) 0, type := 0, pos := "ref.go:88", after := #[{ on := 13, ground := Ground.guard }], guard := some (13, false) } : Oper)) (v := undef) rfl (by kernel_rfl) (by kernel_rfl) (by kernel_rfl) (fun _ _ _ h => h) (Or.inr ⟨by rfl, rfl⟩) hHeld ?_
                    try simp only [Act.put, List.setIfInBounds_toArray, List.set_cons_zero, List.set_cons_succ]
                    refine wpAnyH_take (i := 15) (oi := ({ dst := some 156, op := Op.load 4 (Operand.tmp 155), type := 4, pos := "ref.go:88", after := #[{ on := 14, ground := Ground.data }, { on := 13, ground := Ground.guard }], guard := some (13, false) } : Oper)) (v := undef) rfl (by kernel_rfl) (by kernel_rfl) (by kernel_rfl) (fun _ _ _ h => h) (Or.inr ⟨by rfl, rfl⟩) hHeld ?_
                    try simp only [Act.put, List.setIfInBounds_toArray, List.set_cons_zero, List.set_cons_succ]
                    refine wpAnyH_take (i := 16) (oi := ({ dst := some 157, op := Op.unOp UnOp.not 4 (Operand.tmp 156), type := 4, pos := "ref.go:88", after := #[{ on := 15, ground := Ground.data }, { on := 13, ground := Ground.guard }], guard := some (13, false) } : Oper)) (v := undef) rfl (by kernel_rfl) (by kernel_rfl) (by kernel_rfl) (fun _ _ _ h => h) (Or.inr ⟨by rfl, rfl⟩) hHeld ?_
                    try simp only [Act.put, List.setIfInBounds_toArray, List.set_cons_zero, List.set_cons_succ]
                    refine wpAnyH_take (i := 17) (oi := ({ dst := some 158, op := Op.move (Operand.tmp 157), type := 4, pos := "ref.go:88", after := #[{ on := 16, ground := Ground.data }, { on := 13, ground := Ground.chain }, { on := 13, ground := Ground.guard }], guard := some (13, false) } : Oper)) (v := undef) rfl (by kernel_rfl) (by kernel_rfl) (by kernel_rfl) (fun _ _ _ h => h) (Or.inr ⟨by rfl, rfl⟩) hHeld ?_
                    try simp only [Act.put, List.setIfInBounds_toArray, List.set_cons_zero, List.set_cons_succ]
                    refine wpAnyH_take (i := 18) (oi := ({ dst := some 159, op := Op.move (Operand.tmp 18), type := 3, pos := "ref.go:88", after := #[{ on := 17, ground := Ground.guard }], guard := some (17, true) } : Oper)) (v := undef) rfl (by kernel_rfl) (by kernel_rfl) (by kernel_rfl) (fun _ _ _ h => h) (Or.inr ⟨by rfl, rfl⟩) hHeld ?_
                    try simp only [Act.put, List.setIfInBounds_toArray, List.set_cons_zero, List.set_cons_succ]
                    refine wpAnyH_take (i := 19) (oi := ({ dst := some 160, op := Op.move (Operand.tmp 19), type := 3, pos := "ref.go:88", after := #[{ on := 17, ground := Ground.guard }], guard := some (17, true) } : Oper)) (v := undef) rfl (by kernel_rfl) (by kernel_rfl) (by kernel_rfl) (fun _ _ _ h => h) (Or.inr ⟨by rfl, rfl⟩) hHeld ?_
                    try simp only [Act.put, List.setIfInBounds_toArray, List.set_cons_zero, List.set_cons_succ]
                    refine wpAnyH_take (i := 20) (oi := ({ dst := some 161, op := Op.binOp BinOp.add 3 (Operand.tmp 160) (Operand.const (Value.int IntKind.i64 1)) 3, type := 3, pos := "ref.go:88", after := #[{ on := 19, ground := Ground.data }, { on := 17, ground := Ground.guard }], guard := some (17, true) } : Oper)) (v := undef) rfl (by kernel_rfl) (by kernel_rfl) (by kernel_rfl) (fun _ _ _ h => h) (Or.inr ⟨by rfl, rfl⟩) hHeld ?_
                    try simp only [Act.put, List.setIfInBounds_toArray, List.set_cons_zero, List.set_cons_succ]
                    refine wpAnyH_take (i := 21) (oi := ({ dst := some 162, op := Op.binOp BinOp.eql 3 (Operand.tmp 159) (Operand.tmp 161) 3, type := 4, pos := "ref.go:88", after := #[{ on := 18, ground := Ground.data }, { on := 20, ground := Ground.data }, { on := 17, ground := Ground.guard }], guard := some (17, true) } : Oper)) (v := undef) rfl (by kernel_rfl) (by kernel_rfl) (by kernel_rfl) (fun _ _ _ h => h) (Or.inr ⟨by rfl, rfl⟩) hHeld ?_
                    try simp only [Act.put, List.setIfInBounds_toArray, List.set_cons_zero, List.set_cons_succ]
                    refine wpAnyH_take (i := 22) (oi := ({ dst := some 163, op := Op.pick (Operand.tmp 158) (Operand.tmp 162) (Operand.const (Value.bool false)), type := 4, pos := "ref.go:88", after := #[{ on := 17, ground := Ground.data }, { on := 21, ground := Ground.data }, { on := 13, ground := Ground.guard }], guard := some (13, false) } : Oper)) (v := undef) rfl (by kernel_rfl) (by kernel_rfl) (by kernel_rfl) (fun _ _ _ h => h) (Or.inr ⟨by rfl, rfl⟩) hHeld ?_
                    try simp only [Act.put, List.setIfInBounds_toArray, List.set_cons_zero, List.set_cons_succ]
                    refine wpAnyH_take (i := 23) (oi := ({ dst := some 164, op := Op.move (Operand.tmp 163), type := 4, pos := "ref.go:88", after := #[{ on := 22, ground := Ground.data }, { on := 17, ground := Ground.chain }, { on := 13, ground := Ground.guard }], guard := some (13, false) } : Oper)) (v := undef) rfl (by kernel_rfl) (by kernel_rfl) (by kernel_rfl) (fun _ _ _ h => h) (Or.inr ⟨by rfl, rfl⟩) hHeld ?_
                    try simp only [Act.put, List.setIfInBounds_toArray, List.set_cons_zero, List.set_cons_succ]
                    refine wpAnyH_take (i := 24) (oi := ({ dst := some 165, op := Op.move (Operand.tmp 1), type := 25, pos := "ref.go:88", after := #[{ on := 23, ground := Ground.guard }], guard := some (23, true) } : Oper)) (v := undef) rfl (by kernel_rfl) (by kernel_rfl) (by kernel_rfl) (fun _ _ _ h => h) (Or.inr ⟨by rfl, rfl⟩) hHeld ?_
                    try simp only [Act.put, List.setIfInBounds_toArray, List.set_cons_zero, List.set_cons_succ]
                    refine wpAnyH_take (i := 25) (oi := ({ dst := some 166, op := Op.move (Operand.tmp 19), type := 3, pos := "ref.go:88", after := #[{ on := 23, ground := Ground.guard }], guard := some (23, true) } : Oper)) (v := undef) rfl (by kernel_rfl) (by kernel_rfl) (by kernel_rfl) (fun _ _ _ h => h) (Or.inr ⟨by rfl, rfl⟩) hHeld ?_
                    try simp only [Act.put, List.setIfInBounds_toArray, List.set_cons_zero, List.set_cons_succ]
                    refine wpAnyH_take (i := 26) (oi := ({ dst := some 167, op := Op.indexAddr 25 (Operand.tmp 165) (Operand.tmp 166), type := 0, pos := "ref.go:88", after := #[{ on := 24, ground := Ground.data }, { on := 25, ground := Ground.data }, { on := 23, ground := Ground.guard }], guard := some (23, true) } : Oper)) (v := undef) rfl (by kernel_rfl) (by kernel_rfl) (by kernel_rfl) (fun _ _ _ h => h) (Or.inr ⟨by rfl, rfl⟩) hHeld ?_
                    try simp only [Act.put, List.setIfInBounds_toArray, List.set_cons_zero, List.set_cons_succ]
                    refine wpAnyH_take (i := 27) (oi := ({ dst := some 168, op := Op.load 3 (Operand.tmp 167), type := 3, pos := "ref.go:88", after := #[{ on := 26, ground := Ground.data }, { on := 23, ground := Ground.guard }], guard := some (23, true) } : Oper)) (v := undef) rfl (by kernel_rfl) (by kernel_rfl) (by kernel_rfl) (fun _ _ _ h => h) (Or.inr ⟨by rfl, rfl⟩) hHeld ?_
                    try simp only [Act.put, List.setIfInBounds_toArray, List.set_cons_zero, List.set_cons_succ]
                    refine wpAnyH_take (i := 28) (oi := ({ dst := some 169, op := Op.fieldAddr 37 (Operand.tmp 20) 1, type := 0, pos := "ref.go:88", after := #[{ on := 23, ground := Ground.guard }], guard := some (23, true) } : Oper)) (v := undef) rfl (by kernel_rfl) (by kernel_rfl) (by kernel_rfl) (fun _ _ _ h => h) (Or.inr ⟨by rfl, rfl⟩) hHeld ?_
                    try simp only [Act.put, List.setIfInBounds_toArray, List.set_cons_zero, List.set_cons_succ]
                    refine wpAnyH_take (i := 29) (oi := ({ dst := some 170, op := Op.load 3 (Operand.tmp 169), type := 3, pos := "ref.go:88", after := #[{ on := 28, ground := Ground.data }, { on := 23, ground := Ground.guard }], guard := some (23, true) } : Oper)) (v := undef) rfl (by kernel_rfl) (by kernel_rfl) (by kernel_rfl) (fun _ _ _ h => h) (Or.inr ⟨by rfl, rfl⟩) hHeld ?_
                    try simp only [Act.put, List.setIfInBounds_toArray, List.set_cons_zero, List.set_cons_succ]
                    refine wpAnyH_take (i := 30) (oi := ({ dst := some 171, op := Op.binOp BinOp.eql 3 (Operand.tmp 168) (Operand.tmp 170) 3, type := 4, pos := "ref.go:88", after := #[{ on := 27, ground := Ground.data }, { on := 29, ground := Ground.data }, { on := 23, ground := Ground.guard }], guard := some (23, true) } : Oper)) (v := undef) rfl (by kernel_rfl) (by kernel_rfl) (by kernel_rfl) (fun _ _ _ h => h) (Or.inr ⟨by rfl, rfl⟩) hHeld ?_
                    try simp only [Act.put, List.setIfInBounds_toArray, List.set_cons_zero, List.set_cons_succ]
                    refine wpAnyH_take (i := 31) (oi := ({ dst := some 172, op := Op.pick (Operand.tmp 164) (Operand.tmp 171) (Operand.const (Value.bool false)), type := 4, pos := "ref.go:88", after := #[{ on := 23, ground := Ground.data }, { on := 30, ground := Ground.data }, { on := 13, ground := Ground.guard }], guard := some (13, false) } : Oper)) (v := undef) rfl (by kernel_rfl) (by kernel_rfl) (by kernel_rfl) (fun _ _ _ h => h) (Or.inr ⟨by rfl, rfl⟩) hHeld ?_
                    try simp only [Act.put, List.setIfInBounds_toArray, List.set_cons_zero, List.set_cons_succ]
                    refine wpAnyH_take (i := 32) (oi := ({ dst := some 173, op := Op.pick (Operand.tmp 154) (Operand.const (Value.bool true)) (Operand.tmp 172), type := 4, pos := "ref.go:88", after := #[{ on := 13, ground := Ground.data }, { on := 31, ground := Ground.data }], guard := none } : Oper)) (v := ?_) rfl (by kernel_rfl) (by kernel_rfl) (by kernel_rfl) (fun _ _ _ h => h) (Or.inl ⟨by rfl, ?_⟩) hHeld ?_
                    rotate_left
                    · (intro w hSw; (try dsimp only at hSw); go_simp) <;> with_reducible rfl
                    try simp only [Act.put, List.setIfInBounds_toArray, List.set_cons_zero, List.set_cons_succ]
                    refine wpAnyH_done (by kernel_rfl) ?_ _
                    go_wp2_with fail
                    go_meet
                    exact ⟨by rw [HBf.out], HB11.out⟩
                  · have HBf : Hid (bq = false) := by
                      show _ = _
                      cases bq with
                      | false => rfl
                      | true => exact (hw (HBq.out.1 rfl).2).elim
                    have HWt : Hid (∀ wx, Bl w10 wx → Calls Try.prog 30 #[.agg #[.int .i64 t, .int .i64 n, .int .i64 s, .slice (some ⟨bp, op, none⟩) len c], .slice Af nf cf, .int .i64 s'.n, .int .i64 (m : Int), .int .i64 (-1)] wx fun e w' => e = .returned (.bool false) ∧ Bl wx w') := fun wx hb => (HWh.out wx hb).mono (by
                      rintro e w' ⟨b, rfl, hi, hb'⟩
                      cases b with
                      | true => exact (hw (hi.1 rfl)).elim
                      | false => exact ⟨rfl, hb'⟩)
                    clear HWh hsn hw
                    refine wp_region_held_drew (S := (fun wx => wx.cell? ⟨W.heap.size, 0, none⟩ = some (.int .i64 t) ∧ wx.cell? ⟨W.heap.size, 1, none⟩ = some (.int .i64 n) ∧ wx.cell? ⟨W.heap.size, 2, none⟩ = some (.int .i64 s) ∧ wx.cell? ⟨W.heap.size, 3, none⟩ = some (.slice (some ⟨bp, op, none⟩) len c) ∧ wx.cell? ⟨b2, o2 + fe, none⟩ = some (.slice Af nf cf) ∧ wx.cell? ⟨sb, 0, none⟩ = some (.bool true) ∧ wx.cell? ⟨sb, 1, none⟩ = some (.int .i64 s'.n))) (by kernel_rfl) (HC.out _ HBd.out) (fun hHeld => ?_)
                    refine wpAnyH_take (i := 0) (oi := ({ dst := some 141, op := Op.fieldAddr 37 (Operand.tmp 20) 0, type := 0, pos := "ref.go:88", after := #[], guard := none } : Oper)) (v := ?_) rfl (by kernel_rfl) (by kernel_rfl) (by kernel_rfl) (fun _ _ _ h => h) (Or.inl ⟨by rfl, ?_⟩) hHeld ?_
                    rotate_left
                    · (intro w hSw; (try dsimp only at hSw); go_simp) <;> with_reducible rfl
                    try simp only [Act.put, List.setIfInBounds_toArray, List.set_cons_zero, List.set_cons_succ]
                    refine wpAnyH_take (i := 1) (oi := ({ dst := some 142, op := Op.load 4 (Operand.tmp 141), type := 4, pos := "ref.go:88", after := #[{ on := 0, ground := Ground.data }], guard := none } : Oper)) (v := ?_) rfl (by kernel_rfl) (by kernel_rfl) (by kernel_rfl) (fun _ _ _ h => h) (Or.inl ⟨by rfl, ?_⟩) hHeld ?_
                    rotate_left
                    · (intro w hSw; (try dsimp only at hSw); go_simp) <;> with_reducible rfl
                    try simp only [Act.put, List.setIfInBounds_toArray, List.set_cons_zero, List.set_cons_succ]
                    refine wpAnyH_take (i := 2) (oi := ({ dst := some 143, op := Op.move (Operand.tmp 142), type := 4, pos := "ref.go:88", after := #[{ on := 1, ground := Ground.data }], guard := none } : Oper)) (v := ?_) rfl (by kernel_rfl) (by kernel_rfl) (by kernel_rfl) (fun _ _ _ h => h) (Or.inl ⟨by rfl, ?_⟩) hHeld ?_
                    rotate_left
                    · (intro w hSw; (try dsimp only at hSw); go_simp) <;> with_reducible rfl
                    try simp only [Act.put, List.setIfInBounds_toArray, List.set_cons_zero, List.set_cons_succ]
                    refine wpAnyH_take (i := 3) (oi := ({ dst := some 144, op := Op.load 24 (Operand.tmp 4), type := 24, pos := "ref.go:88", after := #[{ on := 2, ground := Ground.guard }], guard := some (2, true) } : Oper)) (v := ?_) rfl (by kernel_rfl) (by kernel_rfl) (by kernel_rfl) (fun _ _ _ h => h) (Or.inl ⟨by rfl, ?_⟩) hHeld ?_
                    rotate_left
                    · (intro w hSw; (try dsimp only at hSw); go_simp) <;> with_reducible rfl
                    try simp only [Act.put, List.setIfInBounds_toArray, List.set_cons_zero, List.set_cons_succ]
                    refine wpAnyH_take (i := 4) (oi := ({ dst := some 145, op := Op.move (Operand.tmp 2), type := 26, pos := "ref.go:88", after := #[{ on := 2, ground := Ground.guard }], guard := some (2, true) } : Oper)) (v := ?_) rfl (by kernel_rfl) (by kernel_rfl) (by kernel_rfl) (fun _ _ _ h => h) (Or.inl ⟨by rfl, ?_⟩) hHeld ?_
                    rotate_left
                    · (intro w hSw; (try dsimp only at hSw); go_simp) <;> with_reducible rfl
                    try simp only [Act.put, List.setIfInBounds_toArray, List.set_cons_zero, List.set_cons_succ]
                    refine wpAnyH_take (i := 5) (oi := ({ dst := some 146, op := Op.move (Operand.tmp 18), type := 3, pos := "ref.go:88", after := #[{ on := 2, ground := Ground.guard }], guard := some (2, true) } : Oper)) (v := ?_) rfl (by kernel_rfl) (by kernel_rfl) (by kernel_rfl) (fun _ _ _ h => h) (Or.inl ⟨by rfl, ?_⟩) hHeld ?_
                    rotate_left
                    · (intro w hSw; (try dsimp only at hSw); go_simp) <;> with_reducible rfl
                    try simp only [Act.put, List.setIfInBounds_toArray, List.set_cons_zero, List.set_cons_succ]
                    refine wpAnyH_take (i := 6) (oi := ({ dst := some 147, op := Op.indexAddr 26 (Operand.tmp 145) (Operand.tmp 146), type := 0, pos := "ref.go:88", after := #[{ on := 4, ground := Ground.data }, { on := 5, ground := Ground.data }, { on := 2, ground := Ground.guard }], guard := some (2, true) } : Oper)) (v := ?_) rfl (by kernel_rfl) (by kernel_rfl) (by kernel_rfl) (fun _ _ _ h => h) (Or.inl ⟨by rfl, ?_⟩) hHeld ?_
                    rotate_left
                    · (intro w hSw; (try dsimp only at hSw); go_simp) <;> with_reducible rfl
                    try simp only [Act.put, List.setIfInBounds_toArray, List.set_cons_zero, List.set_cons_succ]
                    refine wpAnyH_take (i := 7) (oi := ({ dst := some 148, op := Op.load 34 (Operand.tmp 147), type := 34, pos := "ref.go:88", after := #[{ on := 6, ground := Ground.data }, { on := 2, ground := Ground.guard }], guard := some (2, true) } : Oper)) (v := ?_) rfl (by kernel_rfl) (by kernel_rfl) (by kernel_rfl) (fun _ _ _ h => h) (Or.inl ⟨by rfl, ?_⟩) hHeld ?_
                    rotate_left
                    · (intro w hSw; (try dsimp only at hSw); go_simp) <;> with_reducible rfl
                    try simp only [Act.put, List.setIfInBounds_toArray, List.set_cons_zero, List.set_cons_succ]
                    refine wpAnyH_take (i := 8) (oi := ({ dst := some 149, op := Op.fieldAddr 37 (Operand.tmp 20) 1, type := 0, pos := "ref.go:88", after := #[{ on := 2, ground := Ground.guard }], guard := some (2, true) } : Oper)) (v := ?_) rfl (by kernel_rfl) (by kernel_rfl) (by kernel_rfl) (fun _ _ _ h => h) (Or.inl ⟨by rfl, ?_⟩) hHeld ?_
                    rotate_left
                    · (intro w hSw; (try dsimp only at hSw); go_simp) <;> with_reducible rfl
                    try simp only [Act.put, List.setIfInBounds_toArray, List.set_cons_zero, List.set_cons_succ]
                    refine wpAnyH_take (i := 9) (oi := ({ dst := some 150, op := Op.load 3 (Operand.tmp 149), type := 3, pos := "ref.go:88", after := #[{ on := 8, ground := Ground.data }, { on := 2, ground := Ground.guard }], guard := some (2, true) } : Oper)) (v := ?_) rfl (by kernel_rfl) (by kernel_rfl) (by kernel_rfl) (fun _ _ _ h => h) (Or.inl ⟨by rfl, ?_⟩) hHeld ?_
                    rotate_left
                    · (intro w hSw; (try dsimp only at hSw); go_simp) <;> with_reducible rfl
                    try simp only [Act.put, List.setIfInBounds_toArray, List.set_cons_zero, List.set_cons_succ]
                    refine wpAnyH_take (i := 10) (oi := ({ dst := some 151, op := Op.move (Operand.tmp 19), type := 3, pos := "ref.go:88", after := #[{ on := 2, ground := Ground.guard }], guard := some (2, true) } : Oper)) (v := ?_) rfl (by kernel_rfl) (by kernel_rfl) (by kernel_rfl) (fun _ _ _ h => h) (Or.inl ⟨by rfl, ?_⟩) hHeld ?_
                    rotate_left
                    · (intro w hSw; (try dsimp only at hSw); go_simp) <;> with_reducible rfl
                    try simp only [Act.put, List.setIfInBounds_toArray, List.set_cons_zero, List.set_cons_succ]
                    refine wpAnyH_ready (rs := [11]) (by kernel_rfl) (by simp) ?_
                    refine AllReadyH.cons (o := ({ dst := some 152, op := Op.call { callee := Callee.value (Operand.func 30), args := #[Operand.tmp 144, Operand.tmp 148, Operand.tmp 150, Operand.tmp 151, Operand.const (Value.int IntKind.i64 (-1))], argTypes := #[24, 34, 3, 3, 3] }, type := 4, pos := "ref.go:88", after := #[{ on := 3, ground := Ground.data }, { on := 7, ground := Ground.data }, { on := 9, ground := Ground.data }, { on := 10, ground := Ground.data }, { on := 2, ground := Ground.chain }, { on := 2, ground := Ground.guard }], guard := some (2, true) } : Oper)) rfl (fun K hK => ?_) (AllReadyH.nil)
                    go_simp
                    ((with_reducible refine (HWt.out _ HBd.out).mono ?_); rintro e w11 ⟨rfl, hb5⟩)
                    have HB11 : Hid (Bl w10 w11) := HBd.out.trans hb5
                    clear hb5
                    go_wp2_with fail
                    refine hK.out _ _ (HC.out _ HB11.out) (fun hHeld => ?_)
                    clear hK K
                    try simp only [Act.put, List.setIfInBounds_toArray, List.set_cons_zero, List.set_cons_succ]
                    refine wpAnyH_take (i := 12) (oi := ({ dst := some 153, op := Op.pick (Operand.tmp 143) (Operand.tmp 152) (Operand.const (Value.bool false)), type := 4, pos := "ref.go:88", after := #[{ on := 2, ground := Ground.data }, { on := 11, ground := Ground.data }], guard := none } : Oper)) (v := ?_) rfl (by kernel_rfl) (by kernel_rfl) (by kernel_rfl) (fun _ _ _ h => h) (Or.inl ⟨by rfl, ?_⟩) hHeld ?_
                    rotate_left
                    · (intro w hSw; (try dsimp only at hSw); go_simp) <;> with_reducible rfl
                    try simp only [Act.put, List.setIfInBounds_toArray, List.set_cons_zero, List.set_cons_succ]
                    refine wpAnyH_take (i := 13) (oi := ({ dst := some 154, op := Op.move (Operand.tmp 153), type := 4, pos := "ref.go:88", after := #[{ on := 12, ground := Ground.data }, { on := 11, ground := Ground.chain }], guard := none } : Oper)) (v := ?_) rfl (by kernel_rfl) (by kernel_rfl) (by kernel_rfl) (fun _ _ _ h => h) (Or.inl ⟨by rfl, ?_⟩) hHeld ?_
                    rotate_left
                    · (intro w hSw; (try dsimp only at hSw); go_simp) <;> with_reducible rfl
                    try simp only [Act.put, List.setIfInBounds_toArray, List.set_cons_zero, List.set_cons_succ]
                    refine wpAnyH_take (i := 14) (oi := ({ dst := some 155, op := Op.fieldAddr 37 (Operand.tmp 20) 0, type := 0, pos := "ref.go:88", after := #[{ on := 13, ground := Ground.guard }], guard := some (13, false) } : Oper)) (v := ?_) rfl (by kernel_rfl) (by kernel_rfl) (by kernel_rfl) (fun _ _ _ h => h) (Or.inl ⟨by rfl, ?_⟩) hHeld ?_
                    rotate_left
                    · (intro w hSw; (try dsimp only at hSw); go_simp) <;> with_reducible rfl
                    try simp only [Act.put, List.setIfInBounds_toArray, List.set_cons_zero, List.set_cons_succ]
                    refine wpAnyH_take (i := 15) (oi := ({ dst := some 156, op := Op.load 4 (Operand.tmp 155), type := 4, pos := "ref.go:88", after := #[{ on := 14, ground := Ground.data }, { on := 13, ground := Ground.guard }], guard := some (13, false) } : Oper)) (v := ?_) rfl (by kernel_rfl) (by kernel_rfl) (by kernel_rfl) (fun _ _ _ h => h) (Or.inl ⟨by rfl, ?_⟩) hHeld ?_
                    rotate_left
                    · (intro w hSw; (try dsimp only at hSw); go_simp) <;> with_reducible rfl
                    try simp only [Act.put, List.setIfInBounds_toArray, List.set_cons_zero, List.set_cons_succ]
                    refine wpAnyH_take (i := 16) (oi := ({ dst := some 157, op := Op.unOp UnOp.not 4 (Operand.tmp 156), type := 4, pos := "ref.go:88", after := #[{ on := 15, ground := Ground.data }, { on := 13, ground := Ground.guard }], guard := some (13, false) } : Oper)) (v := ?_) rfl (by kernel_rfl) (by kernel_rfl) (by kernel_rfl) (fun _ _ _ h => h) (Or.inl ⟨by rfl, ?_⟩) hHeld ?_
                    rotate_left
                    · (intro w hSw; (try dsimp only at hSw); go_simp) <;> with_reducible rfl
                    try simp only [Act.put, List.setIfInBounds_toArray, List.set_cons_zero, List.set_cons_succ]
                    refine wpAnyH_take (i := 17) (oi := ({ dst := some 158, op := Op.move (Operand.tmp 157), type := 4, pos := "ref.go:88", after := #[{ on := 16, ground := Ground.data }, { on := 13, ground := Ground.chain }, { on := 13, ground := Ground.guard }], guard := some (13, false) } : Oper)) (v := ?_) rfl (by kernel_rfl) (by kernel_rfl) (by kernel_rfl) (fun _ _ _ h => h) (Or.inl ⟨by rfl, ?_⟩) hHeld ?_
                    rotate_left
                    · (intro w hSw; (try dsimp only at hSw); go_simp) <;> with_reducible rfl
                    try simp only [Act.put, List.setIfInBounds_toArray, List.set_cons_zero, List.set_cons_succ]
                    refine wpAnyH_take (i := 18) (oi := ({ dst := some 159, op := Op.move (Operand.tmp 18), type := 3, pos := "ref.go:88", after := #[{ on := 17, ground := Ground.guard }], guard := some (17, true) } : Oper)) (v := undef) rfl (by kernel_rfl) (by kernel_rfl) (by kernel_rfl) (fun _ _ _ h => h) (Or.inr ⟨by rfl, rfl⟩) hHeld ?_
                    try simp only [Act.put, List.setIfInBounds_toArray, List.set_cons_zero, List.set_cons_succ]
                    refine wpAnyH_take (i := 19) (oi := ({ dst := some 160, op := Op.move (Operand.tmp 19), type := 3, pos := "ref.go:88", after := #[{ on := 17, ground := Ground.guard }], guard := some (17, true) } : Oper)) (v := undef) rfl (by kernel_rfl) (by kernel_rfl) (by kernel_rfl) (fun _ _ _ h => h) (Or.inr ⟨by rfl, rfl⟩) hHeld ?_
                    try simp only [Act.put, List.setIfInBounds_toArray, List.set_cons_zero, List.set_cons_succ]
                    refine wpAnyH_take (i := 20) (oi := ({ dst := some 161, op := Op.binOp BinOp.add 3 (Operand.tmp 160) (Operand.const (Value.int IntKind.i64 1)) 3, type := 3, pos := "ref.go:88", after := #[{ on := 19, ground := Ground.data }, { on := 17, ground := Ground.guard }], guard := some (17, true) } : Oper)) (v := undef) rfl (by kernel_rfl) (by kernel_rfl) (by kernel_rfl) (fun _ _ _ h => h) (Or.inr ⟨by rfl, rfl⟩) hHeld ?_
                    try simp only [Act.put, List.setIfInBounds_toArray, List.set_cons_zero, List.set_cons_succ]
                    refine wpAnyH_take (i := 21) (oi := ({ dst := some 162, op := Op.binOp BinOp.eql 3 (Operand.tmp 159) (Operand.tmp 161) 3, type := 4, pos := "ref.go:88", after := #[{ on := 18, ground := Ground.data }, { on := 20, ground := Ground.data }, { on := 17, ground := Ground.guard }], guard := some (17, true) } : Oper)) (v := undef) rfl (by kernel_rfl) (by kernel_rfl) (by kernel_rfl) (fun _ _ _ h => h) (Or.inr ⟨by rfl, rfl⟩) hHeld ?_
                    try simp only [Act.put, List.setIfInBounds_toArray, List.set_cons_zero, List.set_cons_succ]
                    refine wpAnyH_take (i := 22) (oi := ({ dst := some 163, op := Op.pick (Operand.tmp 158) (Operand.tmp 162) (Operand.const (Value.bool false)), type := 4, pos := "ref.go:88", after := #[{ on := 17, ground := Ground.data }, { on := 21, ground := Ground.data }, { on := 13, ground := Ground.guard }], guard := some (13, false) } : Oper)) (v := ?_) rfl (by kernel_rfl) (by kernel_rfl) (by kernel_rfl) (fun _ _ _ h => h) (Or.inl ⟨by rfl, ?_⟩) hHeld ?_
                    rotate_left
                    · (intro w hSw; (try dsimp only at hSw); go_simp) <;> with_reducible rfl
                    try simp only [Act.put, List.setIfInBounds_toArray, List.set_cons_zero, List.set_cons_succ]
                    refine wpAnyH_take (i := 23) (oi := ({ dst := some 164, op := Op.move (Operand.tmp 163), type := 4, pos := "ref.go:88", after := #[{ on := 22, ground := Ground.data }, { on := 17, ground := Ground.chain }, { on := 13, ground := Ground.guard }], guard := some (13, false) } : Oper)) (v := ?_) rfl (by kernel_rfl) (by kernel_rfl) (by kernel_rfl) (fun _ _ _ h => h) (Or.inl ⟨by rfl, ?_⟩) hHeld ?_
                    rotate_left
                    · (intro w hSw; (try dsimp only at hSw); go_simp) <;> with_reducible rfl
                    try simp only [Act.put, List.setIfInBounds_toArray, List.set_cons_zero, List.set_cons_succ]
                    refine wpAnyH_take (i := 24) (oi := ({ dst := some 165, op := Op.move (Operand.tmp 1), type := 25, pos := "ref.go:88", after := #[{ on := 23, ground := Ground.guard }], guard := some (23, true) } : Oper)) (v := undef) rfl (by kernel_rfl) (by kernel_rfl) (by kernel_rfl) (fun _ _ _ h => h) (Or.inr ⟨by rfl, rfl⟩) hHeld ?_
                    try simp only [Act.put, List.setIfInBounds_toArray, List.set_cons_zero, List.set_cons_succ]
                    refine wpAnyH_take (i := 25) (oi := ({ dst := some 166, op := Op.move (Operand.tmp 19), type := 3, pos := "ref.go:88", after := #[{ on := 23, ground := Ground.guard }], guard := some (23, true) } : Oper)) (v := undef) rfl (by kernel_rfl) (by kernel_rfl) (by kernel_rfl) (fun _ _ _ h => h) (Or.inr ⟨by rfl, rfl⟩) hHeld ?_
                    try simp only [Act.put, List.setIfInBounds_toArray, List.set_cons_zero, List.set_cons_succ]
                    refine wpAnyH_take (i := 26) (oi := ({ dst := some 167, op := Op.indexAddr 25 (Operand.tmp 165) (Operand.tmp 166), type := 0, pos := "ref.go:88", after := #[{ on := 24, ground := Ground.data }, { on := 25, ground := Ground.data }, { on := 23, ground := Ground.guard }], guard := some (23, true) } : Oper)) (v := undef) rfl (by kernel_rfl) (by kernel_rfl) (by kernel_rfl) (fun _ _ _ h => h) (Or.inr ⟨by rfl, rfl⟩) hHeld ?_
                    try simp only [Act.put, List.setIfInBounds_toArray, List.set_cons_zero, List.set_cons_succ]
                    refine wpAnyH_take (i := 27) (oi := ({ dst := some 168, op := Op.load 3 (Operand.tmp 167), type := 3, pos := "ref.go:88", after := #[{ on := 26, ground := Ground.data }, { on := 23, ground := Ground.guard }], guard := some (23, true) } : Oper)) (v := undef) rfl (by kernel_rfl) (by kernel_rfl) (by kernel_rfl) (fun _ _ _ h => h) (Or.inr ⟨by rfl, rfl⟩) hHeld ?_
                    try simp only [Act.put, List.setIfInBounds_toArray, List.set_cons_zero, List.set_cons_succ]
                    refine wpAnyH_take (i := 28) (oi := ({ dst := some 169, op := Op.fieldAddr 37 (Operand.tmp 20) 1, type := 0, pos := "ref.go:88", after := #[{ on := 23, ground := Ground.guard }], guard := some (23, true) } : Oper)) (v := undef) rfl (by kernel_rfl) (by kernel_rfl) (by kernel_rfl) (fun _ _ _ h => h) (Or.inr ⟨by rfl, rfl⟩) hHeld ?_
                    try simp only [Act.put, List.setIfInBounds_toArray, List.set_cons_zero, List.set_cons_succ]
                    refine wpAnyH_take (i := 29) (oi := ({ dst := some 170, op := Op.load 3 (Operand.tmp 169), type := 3, pos := "ref.go:88", after := #[{ on := 28, ground := Ground.data }, { on := 23, ground := Ground.guard }], guard := some (23, true) } : Oper)) (v := undef) rfl (by kernel_rfl) (by kernel_rfl) (by kernel_rfl) (fun _ _ _ h => h) (Or.inr ⟨by rfl, rfl⟩) hHeld ?_
                    try simp only [Act.put, List.setIfInBounds_toArray, List.set_cons_zero, List.set_cons_succ]
                    refine wpAnyH_take (i := 30) (oi := ({ dst := some 171, op := Op.binOp BinOp.eql 3 (Operand.tmp 168) (Operand.tmp 170) 3, type := 4, pos := "ref.go:88", after := #[{ on := 27, ground := Ground.data }, { on := 29, ground := Ground.data }, { on := 23, ground := Ground.guard }], guard := some (23, true) } : Oper)) (v := undef) rfl (by kernel_rfl) (by kernel_rfl) (by kernel_rfl) (fun _ _ _ h => h) (Or.inr ⟨by rfl, rfl⟩) hHeld ?_
                    try simp only [Act.put, List.setIfInBounds_toArray, List.set_cons_zero, List.set_cons_succ]
                    refine wpAnyH_take (i := 31) (oi := ({ dst := some 172, op := Op.pick (Operand.tmp 164) (Operand.tmp 171) (Operand.const (Value.bool false)), type := 4, pos := "ref.go:88", after := #[{ on := 23, ground := Ground.data }, { on := 30, ground := Ground.data }, { on := 13, ground := Ground.guard }], guard := some (13, false) } : Oper)) (v := ?_) rfl (by kernel_rfl) (by kernel_rfl) (by kernel_rfl) (fun _ _ _ h => h) (Or.inl ⟨by rfl, ?_⟩) hHeld ?_
                    rotate_left
                    · (intro w hSw; (try dsimp only at hSw); go_simp) <;> with_reducible rfl
                    try simp only [Act.put, List.setIfInBounds_toArray, List.set_cons_zero, List.set_cons_succ]
                    refine wpAnyH_take (i := 32) (oi := ({ dst := some 173, op := Op.pick (Operand.tmp 154) (Operand.const (Value.bool true)) (Operand.tmp 172), type := 4, pos := "ref.go:88", after := #[{ on := 13, ground := Ground.data }, { on := 31, ground := Ground.data }], guard := none } : Oper)) (v := ?_) rfl (by kernel_rfl) (by kernel_rfl) (by kernel_rfl) (fun _ _ _ h => h) (Or.inl ⟨by rfl, ?_⟩) hHeld ?_
                    rotate_left
                    · (intro w hSw; (try dsimp only at hSw); go_simp) <;> with_reducible rfl
                    try simp only [Act.put, List.setIfInBounds_toArray, List.set_cons_zero, List.set_cons_succ]
                    refine wpAnyH_done (by kernel_rfl) ?_ _
                    go_wp2_with fail
                    go_meet
                    exact ⟨by rw [HBf.out], HB11.out⟩
              case rest =>
              obtain ⟨rfl, HBc⟩ := hcut
              have HB0c := Lib.hid (HB0x.out.trans HBc.out)
              have HB8c := Lib.hid (HB8x.out.trans HBc.out)
              clear HC HWh HBd
              cases hq9 : bq with
              | true =>
                have HN : Hid (¬ AloneP ⟨t, n, s, ps⟩ xs L l) := fun h => HAl.out.1 h (HOt.out.1 (HOp.out.2 (.inr ⟨q, k, s', fd, fe, HP0.out, HSk.out, (HBq.out.1 hq9).1, HFd.out, HFe.out, m, hm0, hle, HMd.out, HInP.out, HWi.out.1 (HBq.out.1 hq9).2⟩)))
                clear hq9
                go_wp2_with fail
                go_ret
                exact ⟨false, rfl, ⟨fun h => (by cases h), fun h => (HN.out h).elim⟩, HB0c.out⟩
              | false =>
                have HG1 := Lib.hid (HGo.out fun _ _ hn hmem => by
                  have h := HBq.out.2 ⟨hn, HWi.out.2 hmem⟩
                  rw [hq9] at h
                  cases h)
                clear hq9
                go_wp2_with fail
                go_roundw
                case rel => exact ⟨m + 1, by omega, by omega, by go_num, HB8c.out, HG1.out⟩
                case measure => simp [intOf]; omega
            · have hle2 : ¬ (m : Int) ≤ (fe : Int) := i_nle hle
              have HN1 : Hid (∀ (dot : Nat) (s2 : Gr.Sy), dot < k + 1 → q.right[dot]? = some s2 → s2.non = true → ∀ fd fe, row[dot]? = some fd → row[dot + 1]? = some fe → ¬ ElsewP ⟨t, n, s, ps⟩ P i0 dot s2.n f0 fd fe) := fun dot s2 h1 h2 h3 fd2 fe2 h4 h5 => by
                rcases Nat.lt_or_ge dot k with h6 | h6
                · exact HNk.out dot s2 h6 h2 h3 fd2 fe2 h4 h5
                · have e : dot = k := by omega
                  subst e
                  obtain ⟨rfl, rfl⟩ := HK1.out fd2 fe2 h4 h5
                  have e2 : s' = s2 := Option.some.inj (HSk.out.symm.trans h2)
                  subst e2
                  rintro ⟨m', g1, g2, g3, g4, g5⟩
                  exact HNm.out m' g1 (by omega) g2 g3 g4 h3 g5
              have HBx := Lib.hid (HBk.out.trans HBm.out)
              go_wp2_with fail
              go_roundw
              case rel => exact ⟨k + 1, by omega, by go_num, HBx.out, HN1.out⟩
              case measure => simp [intOf]; omega
        · have HN1 : Hid (¬ OthersP ⟨t, n, s, ps⟩ P (nd.take (j + 1))) := HNe.out fun h => by
            rcases HOp.out.1 h with h1 | ⟨p, dot, s2, fd, fe, h1, h2, h3, h4, h5, h6⟩
            · exact HNa.out h1
            · have e : q = p := Option.some.inj (HP0.out.symm.trans h1)
              subst e
              exact HNk.out dot s2 (by have h7 := Ch.lt_of_get h2; have h8 := HRq.out; omega) h2 h3 fd fe h4 h5 h6
          have v1 : ¬ (k : Int) < (rl : Int) := i_nlt hkl
          go_wp2_with fail
          go_roundw
          case rel => exact ⟨j + 1, by omega, by go_num, HB4k.out, HN1.out⟩
          case measure => simp [intOf]; omega
    · have HY : Hid (AloneP ⟨t, n, s, ps⟩ xs L l) := HAl.out.2 (by
        have h8 := HNt.out
        rw [List.take_of_length_le (by have := HN4.out; omega)] at h8
        exact h8)
      have HBx := Lib.hid (HB4.out.trans HBr.out)
      have r1 : ¬ (j : Int) < (n4 : Int) := by omega
      go_wp2_with fail
      go_ret
      exact .inr ⟨rfl, HY.out, HBx.out⟩
end Go.Proofs.Ytdfhhbncmdpoeaa
