/- The reference's Spans (layer 8): the walk. -/
import Derived.Test.YtckckejgocbkkaaSpanS
namespace Go.Proofs.Ytckckejgocbkkaa
open Go.RowKit

/-- What Spans leaves: a table that is sound and closed. -/
def SPost (g : Gr.Gm) (xs : List Int) (w : World) (e : Ending) (w' : World) : Prop :=
  ∃ (A : Option Addr) (c B0 : Nat) (rows : List RowD) (T : Cf.Tb), e = .returned (.slice A g.nons.toNat c) ∧ rows.length = g.nons.toNat ∧ Tab B0 (xs.length + 1) (.slice A g.nons.toNat c) rows T w' ∧ Cf.Sound g xs T ∧ Cf.Closed g xs T ∧ Bl w w'
theorem ok_nons' {t n s : Int} {ps : List Gr.Pr} (h : okB ⟨t, n, s, ps⟩ = true) : 1 ≤ n ∧ n ≤ 24 ∧ ps.length ≤ 60 := by
  obtain ⟨_, _, h3, h4, _, _, h7, _⟩ := (okB_iff _).1 h
  exact ⟨h3, h4, h7⟩
theorem ok_syms' {t n s : Int} {ps : List Gr.Pr} (h : okB ⟨t, n, s, ps⟩ = true) {p : Gr.Pr} (hp : p ∈ ps) : (0 ≤ p.left ∧ p.left < n) ∧ p.right.length ≤ 8 ∧ (∀ x ∈ p.right, x.non = true → 0 ≤ x.n ∧ x.n < n) ∧ Cf.Pos p.right := by
  have ho := (okB_iff _).1 h
  obtain ⟨_, _, _, _, _, _, _, h8⟩ := ho
  obtain ⟨h1, h2, h3, h4⟩ := h8 _ hp
  refine ⟨⟨h1, h2⟩, h3, fun x hx hn => ?_, fun x hx => (h4 x hx).1⟩
  have h5 := h4 x hx
  unfold Gr.okSy at h5
  simpa [hn] using h5

theorem Tab.read0 {B0 m N bo c n a b : Nat} {rows : List RowD} {T : Cf.Tb} {w : World} (h : Tab B0 m (.slice (some ⟨bo, 0, none⟩) N c) rows T w) (hn : n < rows.length) (ha : a < m) (hb : b < m) : ∃ g, bo < w.heap.size ∧
    w.cell? ⟨bo, n, none⟩ = some (.slice (some ⟨rows[n].blk, 0, none⟩) m rows[n].cap) ∧ rows[n].blk < w.heap.size ∧ w.cell? ⟨rows[n].blk, a, none⟩ = some (.slice (some ⟨g, 0, none⟩) m m) ∧ g < w.heap.size ∧
    w.cell? ⟨g, b, none⟩ = some (.bool (T n a b)) ∧ w.frozen? ⟨g, b, none⟩ = false ∧ B0 ≤ g ∧ g < rows[n].hi ∧ Tab B0 m (.slice (some ⟨bo, 0, none⟩) N c) rows (updT T n a b true) (w.setCell ⟨g, b, none⟩ (.bool true)) := by
  obtain ⟨bo', c', g, e, h1, h2, h3, h4, h5, h6, h7, h8, h9, h10⟩ := h.read hn ha hb
  injection e with e1 _ _
  injection e1 with e1
  injection e1 with e1 _ _
  subst e1
  exact ⟨g, h1, h2, h3, h4, h5, h6, h7, h8, h9, h10 true⟩

set_option maxRecDepth 100000 in
set_option maxHeartbeats 8000000 in
theorem spans_gen (t n s : Int) (A : Option Addr) (len c : Nat) (ps : List Gr.Pr) (Aw : Option Addr) (lw cw : Nat) (xs : List Int) (w : World) (B : Nat) (hlen : len = ps.length)
    (hn : 1 ≤ n ∧ n ≤ 1000 ∧ ps.length ≤ 1000) (hso : ∀ p ∈ ps, (0 ≤ p.left ∧ p.left < n) ∧ p.right.length ≤ 8 ∧ (∀ x ∈ p.right, x.non = true → 0 ≤ x.n ∧ x.n < n) ∧ Cf.Pos p.right) (hr : Prs w B A ps)
    (hlw : lw = xs.length) (hmw : lw ≤ 1000) (hrw : Rd w B Aw (ins xs)) (hB : B ≤ w.heap.size) :
    Calls Try.prog 18 #[.agg #[.int .i64 t, .int .i64 n, .int .i64 s, .slice A len c], .slice Aw lw cw] w (SPost ⟨t, n, s, ps⟩ xs w) := by
  obtain ⟨i2, hi2, hx0, hx1, hx2⟩ := info_parts boolss_info
  obtain ⟨n1, n2, n3⟩ := hn
  have hl60 : len ≤ 1000 := by omega
  obtain ⟨N, rfl⟩ : ∃ N : Nat, n = (N : Int) := ⟨n.toNat, by omega⟩
  have hSO : ∀ p : Gr.Pr, p ∈ ps → (0 ≤ p.left ∧ p.left < (N : Int)) ∧ p.right.length ≤ 8 ∧ (∀ x ∈ p.right, x.non = true → 0 ≤ x.n ∧ x.n < (N : Int)) ∧ Cf.Pos p.right := hso
  have HSO := Lib.hid hSO; clear hSO hso
  obtain ⟨G, hG⟩ : ∃ G : Gr.Gm, G = ⟨t, (N : Int), s, ps⟩ := ⟨_, rfl⟩
  have HGp : Hid (G.prods = ps ∧ G.nons.toNat = N ∧ G.nons = (N : Int)) := by subst hG; exact ⟨rfl, rfl, rfl⟩
  rw [← hG]
  clear hG
  have HL := Lib.hid hlen; clear hlen
  have HLW := Lib.hid hlw; clear hlw
  have HA := Lib.hid hr; clear hr
  have HW := Lib.hid hrw; clear hrw
  have HB0 : Hid (Bl w (w.alloc (.cells #[.int .i64 t, .int .i64 (N : Int), .int .i64 s, .slice A len c] 24))) := (Bl.refl w).alloc _
  have HG0 := Lib.hid (Bk.new w 24 #[.int .i64 t, .int .i64 (N : Int), .int .i64 s, .slice A len c])
  have hBg : B ≤ (w.alloc (.cells #[.int .i64 t, .int .i64 (N : Int), .int .i64 s, .slice A len c] 24)).heap.size := by simp; omega
  go_enter Try.func18, Try.ntmps18
  go_wp2_with fail
  refine (none_any N lw _ (by omega) hmw).mono ?_
  generalize w.alloc (.cells #[.int .i64 t, .int .i64 (N : Int), .int .i64 s, .slice A len c] 24) = wg at HB0 HG0 hBg ⊢
  rintro e wn ⟨A1, c1, rows, rfl, hrows, htab, hbn⟩
  obtain ⟨bo, co, hvo, _, _⟩ := htab.own.form (by omega)
  injection hvo with hvo hvo2 hvo3
  subst hvo
  clear hvo2 hvo3
  have HAg := Lib.hid (HA.out.bl hB HB0.out)
  have HWg := Lib.hid (HW.out.bl hB HB0.out)
  have HHi : Hid (∀ n (hn : n < rows.length), rows[n].hi ≤ wn.heap.size) := fun n hn => (htab.one n hn).hi_
  have HTn := Lib.hid htab
  have HBn := Lib.hid hbn
  have HRl := Lib.hid hrows
  have hwn : wg.heap.size ≤ wn.heap.size := (Bl.own hbn).size
  clear htab hbn hrows HA HW
  obtain ⟨gg, hgg⟩ : ∃ gg : Nat, gg = w.heap.size := ⟨_, rfl⟩
  rw [← hgg] at HG0 ⊢
  clear hgg
  go_wp2_with fail
  go_loopw [6] (fun f wr => ∃ (T : Cf.Tb) (mb : Bool), f = .bool mb ∧ Hid (Tab wg.heap.size (lw + 1) (.slice (some ⟨bo, 0, none⟩) N c1) rows T wr) ∧ Hid (Cf.Sound G xs T) ∧ Hid (mb = false → Cf.Closed G xs T) ∧ Hid (Bl wg wr) ∧ wn.heap.size ≤ wr.heap.size) (fun f wr => todo (lw + 1) N rows f wr)
  case atStart => exact ⟨_, true, rfl, HTn.out, (fun n a b h => by cases h), (fun h => by cases h), HBn.out, Nat.le_refl _⟩
  case round =>
    obtain ⟨T0, mb, rfl, HT0, HS0, HC0, HB1, hwr⟩ := hrel
    cases mb with
    | false =>
      go_wp2_with fail
      go_ret
      exact ⟨some ⟨bo, 0, none⟩, c1, wg.heap.size, rows, T0, by rw [HGp.out.2.1]; rfl, by rw [HGp.out.2.1]; exact HRl.out, by rw [HGp.out.2.1, ← HLW.out]; exact HT0.out, HS0.out, HC0.out (by first | trivial | rfl), HB0.out.trans HB1.out⟩
    | true =>
      obtain ⟨wm, hwm⟩ : ∃ wm : World, wm = wr := ⟨_, rfl⟩
      have HTodo := Lib.hid (todo_is (f := .bool true) HT0.out HRl.out (show 0 < lw + 1 by omega))
      go_wp2_with fail
      go_loopw [6, 7] (fun f i wr => ∃ (k : Nat) (T : Cf.Tb) (mb : Bool), k ≤ len ∧ i = .int .i64 k ∧ f = .bool mb ∧ Hid (Tab wg.heap.size (lw + 1) (.slice (some ⟨bo, 0, none⟩) N c1) rows T wr) ∧ Hid (Sweep G xs T0 T mb) ∧ Hid (mb = false → ClosedTo G xs T k) ∧ Hid (Bl wg wr) ∧ wn.heap.size ≤ wr.heap.size) (fun _ i _ => len - (intOf i).toNat)
      case atStart => exact ⟨0, T0, false, Nat.zero_le _, rfl, rfl, HT0.out, Sweep.start HS0.out, (fun _ => closedTo_zero), HB1.out, hwr⟩
      case round =>
        obtain ⟨k, T, mb, hk, rfl, rfl, HT, HSw, HCl, HBr, hwi⟩ := hrel
        obtain ⟨wi, rfl⟩ : ∃ wi : World, wi = wr := ⟨_, rfl⟩
        have HGr := Lib.hid (HG0.out.bl HBr.out)
        have g3 : wi.cell? ⟨gg, 3, none⟩ = some (.slice A len c) := HGr.out.cell 3
        have glt : gg < wi.heap.size := HGr.out.lt
        by_cases hlt : k < len
        · have hj : k < ps.length := by have := HL.out; omega
          obtain ⟨p, hp⟩ : ∃ p : Gr.Pr, p = ps[k] := ⟨_, rfl⟩
          have HPk : Hid (G.prods[k]? = some p) := by rw [HGp.out.1, hp]; exact List.getElem?_eq_getElem hj
          have HPm : Hid (p ∈ ps) := by rw [hp]; exact List.getElem_mem hj
          have hAt := HAg.out.at_ hj
          rw [← hp] at hAt
          obtain ⟨b, off, Ax, cx, rfl, hbB, hrx, hc0, hc1⟩ := hAt
          clear hp hj
          obtain ⟨⟨o1, o2⟩, o3, o4, o5⟩ := HSO.out p HPm.out
          obtain ⟨L, hL⟩ : ∃ L : Nat, p.left = (L : Int) := ⟨p.left.toNat, by omega⟩
          have hLN : L < N := by omega
          rw [hL] at hc0
          have hbw : b < wg.heap.size := by omega
          have HCell : Hid (∀ W : World, Bl wg W → W.cell? ⟨b, off + k * 2, none⟩ = some (.int .i64 L) ∧ W.cell? ⟨b, off + k * 2 + 1, none⟩ = some (.slice Ax p.right.length cx) ∧ b < W.heap.size ∧ gg < W.heap.size ∧ W.cell? ⟨gg, 3, none⟩ = some (.slice (some ⟨b, off, none⟩) len c)) := fun W hb =>
            ⟨(Below.cell hb (p := ⟨b, off + k * 2, none⟩) hbw).trans hc0, (Below.cell hb (p := ⟨b, off + k * 2 + 1, none⟩) hbw).trans hc1, Nat.lt_of_lt_of_le hbw hb.size, (HG0.out.bl hb).lt, (HG0.out.bl hb).cell 3⟩
          have HRx := Lib.hid hrx
          have HO4 := Lib.hid o4
          have HO5 := Lib.hid o5
          have HLe := Lib.hid hL
          clear hrx hc0 hc1 o1 o2 o4 o5 hL
          have HSy0 : Hid (SyRel wi.heap.size (lw + 1) rows xs p.right (.slice (some ⟨wi.heap.size, 0, none⟩) 0 0) [] (wi.alloc (.cells #[] 49))) := SyRel.start wi
          have HBi0 : Hid (Bl wi (wi.alloc (.cells #[] 49))) := (Bl.refl wi).alloc _
          go_wp2_with fail
          go_loopw [8, 9] (fun v i wr => ∃ vs : List Value, vs.length ≤ p.right.length ∧ i = .int .i64 vs.length ∧ Hid (SyRel wi.heap.size (lw + 1) rows xs p.right v vs wr) ∧ Hid (Bl wi wr)) (fun _ i _ => p.right.length - (intOf i).toNat)
          case atStart => exact ⟨[], Nat.zero_le _, rfl, HSy0.out, HBi0.out⟩
          case round =>
            obtain ⟨vs, hvs, rfl, HSy, HBi⟩ := hrel
            obtain ⟨c0, c1', cbw, cgg, cg3⟩ := HCell.out wr (HBr.out.trans HBi.out)
            have hwiw : wi.heap.size ≤ wr.heap.size := HBi.out.size
            by_cases hlt2 : vs.length < p.right.length
            · obtain ⟨bx, ox, rfl, hbx, q0, q1⟩ := (HRx.out.bl hBg (HBr.out.trans HBi.out)).sym hlt2
              have hbxw : bx < wr.heap.size := by have := HBr.out.size; omega
              have HStep := Lib.hid (fun wx (hb : Bl wr wx) x hx1 hx2 o g cap w5 ho5 hg5 hgl => HSy.out.step (wx := wx) (w5 := w5) (o := o) (g := g) (cap := cap) hwiw hb hlt2 (x := x) hx1 hx2 ho5 hg5 hgl)
              have HO4k := Lib.hid (HO4.out _ (List.getElem_mem hlt2))
              generalize p.right[vs.length] = y at *
              obtain ⟨yb, yn⟩ := y
              simp only at q0 q1
              cases yb with
              | true =>
                obtain ⟨nn, hne, hnlt⟩ : ∃ nn : Nat, yn = (nn : Int) ∧ nn < N := by
                  have := HO4k.out rfl
                  exact ⟨yn.toNat, by simp only at this; omega, by simp only at this; omega⟩
                subst hne
                have hnr : nn < rows.length := by have := HRl.out; omega
                obtain ⟨_, t1, t2, t3, _⟩ := (HT.out.bl_ HBi.out).read0 hnr (show 0 < lw + 1 by omega) (show 0 < lw + 1 by omega)
                have HS2 := Lib.hid (fun o g cap w5 ho5 hg5 hgl => HStep.out (wr.alloc (.cells #[.bool true, .int .i64 (nn : Int)] 48)) ((Bl.refl wr).alloc _) (RowD.cell (lw + 1) (rows[nn]'hnr)) (fun _ => ⟨nn, hnr, rfl, rfl⟩) (fun h => by cases h) o g cap w5 ho5 hg5 hgl)
                unfold RowD.cell at HS2
                generalize rows[nn] = rr at *
                obtain ⟨rblk, rcap, rlo, rhi, rleaf⟩ := rr
                simp only at t2 t3 HS2
                have HOw := Lib.hid ((HSy.out.own.alloc (.cells #[.bool true, .int .i64 (nn : Int)] 48)).alloc (.cells #[.slice (some ⟨rblk, 0, none⟩) (lw + 1) rcap] 49))
                have HBw : Hid (Bl wi (wr.alloc (.cells #[.bool true, .int .i64 (nn : Int)] 48))) := HBi.out.alloc _
                clear hnr
                go_wp2_with (at_builtin; refine wpList_append_lies _ rfl (.tmp 50) (.tmp 56) 39 rfl wi.heap.size 49 i2 (.slice none 0 0) 1 24 Try.underlying39 hi2 hx0 hx1 hx2 rfl (by decide) _ _ _ rfl HOw.out ⟨wr.heap.size + 1, 0, none⟩ 1 1 [.slice (some ⟨rblk, 0, none⟩) (lw + 1) rcap] rfl rfl (by have h := one_new' (wr.alloc (.cells #[.bool true, .int .i64 (nn : Int)] 48)) (.slice (some ⟨rblk, 0, none⟩) (lw + 1) rcap) 49; rw [World.size_alloc] at h; exact h) (by simp [Value.oneCell']) (by decide) (by simp only [maxLen]; omega) (by omega) (by simp; omega) _ rfl ?_; intro g5 cap5 w5 hown5 hg5 hgl5 _; have HX := Lib.hid (HS2.out _ _ _ _ hown5 hg5 hgl5); have HY : Hid (Bl wi w5) := (HBw.out.alloc _).grown hg5 (fun k hk => (HSy.out.own.lt k hk).1); clear hown5 hg5 hgl5)
                go_roundw
                case rel => exact ⟨vs ++ [Value.slice (some ⟨rblk, 0, none⟩) (lw + 1) rcap], by simp; omega, by simp; try omega, HX.out, HY.out⟩
                case measure => simp [intOf]; omega
              | false =>
                have HBs : Hid (Bl wg (wr.alloc (.cells #[.bool false, .int .i64 yn] 48))) := (HBr.out.trans HBi.out).alloc _
                go_wp2_with fail
                refine (token_any Aw lw cw xs yn _ B HLW.out hmw (HWg.out.bl hBg HBs.out) (Nat.le_trans hBg HBs.out.size)).mono ?_
                rintro e wt ⟨At, ct, rfl, hrow, hbt⟩
                have HBt : Hid (Bl wr wt) := ((Bl.refl wr).alloc (.cells #[.bool false, .int .i64 yn] 48)).trans hbt
                have HS2 := Lib.hid (fun o g cap w5 ho5 hg5 hgl => HStep.out wt HBt.out (.slice At (lw + 1) ct) (fun h => by cases h) (fun _ => hrow.mono fun b hP => ⟨by have := hP.1; rw [World.size_alloc] at this; omega, hP.2⟩) o g cap w5 ho5 hg5 hgl)
                have HOw := Lib.hid ((own_bl HSy.out.own HBt.out).alloc (.cells #[.slice At (lw + 1) ct] 49))
                have hwt : wr.heap.size ≤ wt.heap.size := HBt.out.size
                clear hrow hbt q0 q1 c0 c1' cg3
                go_wp2_with (at_builtin; refine wpList_append_lies _ rfl (.tmp 58) (.tmp 63) 39 rfl wi.heap.size 49 i2 (.slice none 0 0) 1 24 Try.underlying39 hi2 hx0 hx1 hx2 rfl (by decide) _ _ _ rfl HOw.out ⟨wt.heap.size, 0, none⟩ 1 1 [.slice At (lw + 1) ct] rfl rfl (one_new' _ _ _) (by simp [Value.oneCell']) (by decide) (by simp only [maxLen]; omega) (by omega) (by simp; omega) _ rfl ?_; intro g5 cap5 w5 hown5 hg5 hgl5 _; have HX := Lib.hid (HS2.out _ _ _ _ hown5 hg5 hgl5); have HY : Hid (Bl wi w5) := ((HBi.out.trans HBt.out).alloc _).grown hg5 (fun k hk => (HSy.out.own.lt k hk).1); clear hown5 hg5 hgl5)
                go_roundw
                case rel => exact ⟨vs ++ [Value.slice At (lw + 1) ct], by simp; omega, by simp; try omega, HX.out, HY.out⟩
                case measure => simp [intOf]; omega
            · have hvl : vs.length = p.right.length := by omega
              obtain ⟨A8, c8, hv8, _⟩ := own_form HSy.out.own
              subst hv8
              have HSl := Lib.hid (fun (T1 : Cf.Tb) (W : World) (hf : Fr (fun b => b < wi.heap.size) wr W) (ht : Tab wg.heap.size (lw + 1) (.slice (some ⟨bo, 0, none⟩) N c1) rows T1 W) => HSy.out.row3 hvl hf ht)
              obtain ⟨wl, rfl⟩ : ∃ wl : World, wl = wr := ⟨_, rfl⟩
              have HTl := Lib.hid (HT.out.bl_ HBi.out)
              have HBl := Lib.hid (HBr.out.trans HBi.out)
              have HLt : Hid (p.left.toNat = L) := by have := HLe.out; show p.left.toNat = L; omega
              have hLr : L < rows.length := by have := HRl.out; omega
              have hhi := HHi.out L hLr
              rw [hvl]
              go_wp2_with fail
              clear c0 c1' cbw cgg cg3 hlt2 hvs
              go_loopw [6, 11] (fun f i wr => ∃ (a : Nat) (T1 : Cf.Tb) (mb1 : Bool), a ≤ lw + 1 ∧ i = .int .i64 a ∧ f = .bool mb1 ∧ Hid (Tab wg.heap.size (lw + 1) (.slice (some ⟨bo, 0, none⟩) N c1) rows T1 wr) ∧ Hid (Sweep G xs T0 T1 mb1) ∧ Hid (mb1 = false → ClosedTo G xs T1 k ∧ PlaceTo xs T1 p a) ∧ Hid (Bl wg wr) ∧ Hid (Fr (fun b => b < wi.heap.size) wl wr) ∧ wl.heap.size ≤ wr.heap.size) (fun _ i _ => lw + 1 - (intOf i).toNat)
              case atStart => exact ⟨0, T, mb, Nat.zero_le _, rfl, rfl, HTl.out, HSw.out, (fun h => ⟨HCl.out h, placeTo_zero⟩), HBl.out, Fr.refl _ _, Nat.le_refl _⟩
              case round =>
                obtain ⟨a, T1, mb1, ha, rfl, rfl, HT1, HSw1, HCl1, HBa, HF1, hw1⟩ := hrel
                obtain ⟨wa, rfl⟩ : ∃ wa : World, wa = wr := ⟨_, rfl⟩
                by_cases hlta : a ≤ lw
                · have HR3 := Lib.hid (HSl.out T1 wa HF1.out HT1.out)
                  go_wp2_with fail
                  refine (row8_any A8 p.right.length c8 (p.right.map (Cf.sym T1 xs)) a lw wa (by rw [List.length_map]) (by omega) hlta hmw HR3.out).mono ?_
                  have HCh : Hid (∀ b, b < lw + 1 → (walkF (p.right.map (Cf.sym T1 xs)) (upd (fun _ => false) a true) b = true ↔ Cf.Ch T1 xs p.right a b)) := fun b hb => walk_ch (by have := HLW.out; omega)
                  generalize walkF (p.right.map (Cf.sym T1 xs)) (upd (fun _ => false) a true) = hh at HCh ⊢
                  rintro e w8 ⟨g8, c8', rfl, hr8, hb8⟩
                  have HAt8 := Lib.hid hr8
                  have HB8 := Lib.hid hb8
                  have hw8 : wa.heap.size ≤ w8.heap.size := (Bl.own hb8).size
                  clear hr8 hb8
                  go_wp2_with fail
                  go_loopw [6, 13] (fun f i wr => ∃ (j : Nat) (T2 : Cf.Tb) (mb2 : Bool), a ≤ j ∧ j ≤ lw + 1 ∧ i = .int .i64 j ∧ f = .bool mb2 ∧ Hid (Tab wg.heap.size (lw + 1) (.slice (some ⟨bo, 0, none⟩) N c1) rows T2 wr) ∧ Hid (Sweep G xs T0 T2 mb2) ∧ Hid (∀ n a b, T1 n a b = true → T2 n a b = true) ∧
                    Hid (mb2 = false → ClosedTo G xs T2 k ∧ PlaceTo xs T2 p a ∧ T1 = T2 ∧ EndTo xs T2 p a j) ∧ Hid (Bl wg wr) ∧ Hid (Fr (fun b => b < wi.heap.size) w8 wr) ∧ w8.heap.size ≤ wr.heap.size) (fun _ i _ => lw + 1 - (intOf i).toNat)
                  case atStart => exact ⟨a, T1, mb1, Nat.le_refl _, by omega, rfl, rfl, HT1.out.bl_ HB8.out, HSw1.out, (fun _ _ _ h => h), (fun h => ⟨(HCl1.out h).1, (HCl1.out h).2, rfl, endTo_start a⟩), HBa.out.trans HB8.out, Fr.refl _ _, Nat.le_refl _⟩
                  case round =>
                    obtain ⟨j, T2, mb2, haj, hj, rfl, rfl, HT2, HSw2, HGr2, HCl2, HBb, HF2, hw2⟩ := hrel
                    by_cases hltb : j ≤ lw
                    · have hjl : j < lw + 1 := by omega
                      have hal : a < lw + 1 := by omega
                      obtain ⟨kat, _, kg8⟩ := (HAt8.out.keep (w' := wr) (fun b hb => HF2.out.block b hb.2 (by have := hb.1; omega))).bls0 hjl
                      have kgl : g8 < wr.heap.size := by omega
                      cases hhj : hh j with
                      | false =>
                        rw [hhj] at kat
                        have HX : Hid (mb2 = false → ClosedTo G xs T2 k ∧ PlaceTo xs T2 p a ∧ T1 = T2 ∧ EndTo xs T2 p a (j + 1)) := fun h => by
                          obtain ⟨q1, q2, q3, q4⟩ := HCl2.out h
                          refine ⟨q1, q2, q3, endTo_succ q4 fun hc => ?_⟩
                          rw [← q3] at hc
                          have := (HCh.out j hjl).2 hc
                          rw [hhj] at this; cases this
                        clear hhj
                        go_wp2_with fail
                        go_roundw
                        case rel => exact ⟨j + 1, T2, mb2, by omega, by omega, by go_num, rfl, HT2.out, HSw2.out, HGr2.out, HX.out, HBb.out, HF2.out, hw2⟩
                        case measure => simp [intOf]; omega
                      | true =>
                        rw [hhj] at kat
                        have HHj := Lib.hid hhj; clear hhj
                        obtain ⟨c0, c1', cbw, cgg, cg3⟩ := HCell.out wr HBb.out
                        obtain ⟨g2, t1, t2, t3, t4, t5, t6, t7, t8, t9, t10⟩ := HT2.out.read0 hLr hal hjl
                        have HPut := Lib.hid t10
                        generalize rows[L] = rr at *
                        obtain ⟨rblk, rcap, rlo, rhi, rleaf⟩ := rr
                        simp only at t2 t3 t4 t9 hhi
                        clear t10
                        cases ht : T2 L a j with
                        | true =>
                          rw [ht] at t6
                          have HX : Hid (mb2 = false → ClosedTo G xs T2 k ∧ PlaceTo xs T2 p a ∧ T1 = T2 ∧ EndTo xs T2 p a (j + 1)) := fun h => by
                            obtain ⟨q1, q2, q3, q4⟩ := HCl2.out h
                            exact ⟨q1, q2, q3, endTo_succ q4 fun _ => by rw [HLt.out]; exact ht⟩
                          clear ht
                          go_wp2_with fail
                          go_roundw
                          case rel => exact ⟨j + 1, T2, mb2, by omega, by omega, by go_num, rfl, HT2.out, HSw2.out, HGr2.out, HX.out, HBb.out, HF2.out, hw2⟩
                          case measure => simp [intOf]; omega
                        | false =>
                          rw [ht] at t6
                          have HS3 : Hid (Sweep G xs T0 (updT T2 L a j true) true) := by
                            have h := HSw2.out.put (p := p) (a := a) (b := j) (by rw [HGp.out.1]; exact HPm.out) (by have := HLe.out; omega) (by have := HLe.out; have := HGp.out.2.2; omega) HO5.out (by have := HLW.out; omega) (((HCh.out j hjl).1 HHj.out).mono HGr2.out) (by rw [HLt.out]; exact ht)
                            rw [HLt.out] at h
                            exact h
                          have HY : Hid (Bl wg (wr.setCell ⟨g2, j, none⟩ (.bool true))) := Bl.fr HBb.out ((Fr.refl (fun k => k = g2) wr).own _ _) (fun i hi e => by omega)
                          have HZ : Hid (Fr (fun b => b < wi.heap.size) w8 (wr.setCell ⟨g2, j, none⟩ (.bool true))) := HF2.out.setCell (p := ⟨g2, j, none⟩) (.inl (by show g2 < wi.heap.size; omega)) _
                          have hsz : w8.heap.size ≤ (wr.setCell ⟨g2, j, none⟩ (.bool true)).heap.size := HZ.out.size
                          have HSz := Lib.hid hsz
                          clear ht hsz
                          go_wp2_with fail
                          go_roundw
                          case rel => exact ⟨j + 1, updT T2 L a j true, true, by omega, by omega, by go_num, rfl, HPut.out, HS3.out, (fun n a b h => updT_mono (HGr2.out n a b h)), (fun h => by cases h), HY.out, HZ.out, HSz.out⟩
                          case measure => simp [intOf]; omega
                    · have hjm : j = xs.length + 1 := by have := HLW.out; omega
                      have HX : Hid (mb2 = false → ClosedTo G xs T2 k ∧ PlaceTo xs T2 p (a + 1)) := fun h => by
                        obtain ⟨q1, q2, q3, q4⟩ := HCl2.out h
                        rw [hjm] at q4
                        exact ⟨q1, placeTo_succ q2 q4⟩
                      have HZ : Hid (Fr (fun b => b < wi.heap.size) wl wr) := (HF1.out.after HB8.out).same HF2.out
                      clear hjm
                      go_wp2_with fail
                      go_roundw
                      case rel => exact ⟨a + 1, T2, mb2, by omega, by go_num, rfl, HT2.out, HSw2.out, HX.out, HBb.out, HZ.out, by omega⟩
                      case measure => simp [intOf]; omega
                · have ham : a = xs.length + 1 := by have := HLW.out; omega
                  have HX : Hid (mb1 = false → ClosedTo G xs T1 (k + 1)) := fun h => by
                    obtain ⟨q1, q2⟩ := HCl1.out h
                    rw [ham] at q2
                    exact closedTo_succ q1 HPk.out q2
                  clear ham
                  go_wp2_with fail
                  go_roundw
                  case rel => exact ⟨k + 1, T1, mb1, by omega, by go_num, rfl, HT1.out, HSw1.out, HX.out, HBa.out, by omega⟩
                  case measure => simp [intOf]; omega
        · have HX : Hid (mb = false → Cf.Closed G xs T) := fun h => closedTo_all (by
            have := HCl.out h
            rw [show k = G.prods.length by rw [HGp.out.1]; have := HL.out; omega] at this
            exact this)
          have HLess := Lib.hid (todo_lt (m := lw + 1) (N := N) HSw.out (by have := HLW.out; omega) HGp.out.2.1)
          have HTd := Lib.hid (todo_is (f := .bool mb) HT.out HRl.out (show 0 < lw + 1 by omega))
          go_wp2_with fail
          go_roundw
          case rel => exact ⟨T, mb, rfl, HT.out, HSw.out.sound, HX.out, HBr.out, hwi⟩
          case measure => rw [HTd.out, HTodo.out]; exact HLess.out
theorem spans_any (t n s : Int) (A : Option Addr) (len c : Nat) (ps : List Gr.Pr) (Aw : Option Addr) (lw cw : Nat) (xs : List Int) (w : World) (B : Nat) (hlen : len = ps.length) (hok : okB ⟨t, n, s, ps⟩ = true) (hr : Prs w B A ps)
    (hlw : lw = xs.length) (hmw : lw ≤ 1000) (hrw : Rd w B Aw (ins xs)) (hB : B ≤ w.heap.size) :
    Calls Try.prog 18 #[.agg #[.int .i64 t, .int .i64 n, .int .i64 s, .slice A len c], .slice Aw lw cw] w (SPost ⟨t, n, s, ps⟩ xs w) :=
  spans_gen t n s A len c ps Aw lw cw xs w B hlen (by obtain ⟨h1, h2, h3⟩ := ok_nons' hok; omega) (fun _ hp => ok_syms' hok hp) hr hlw hmw hrw hB
end Go.Proofs.Ytckckejgocbkkaa
/- Tables of spans with their numbers written out; words that laws make of bytes. -/
namespace Go.Proofs.Ytckckejgocbkkaa
open Go.RowKit

theorem SPost.lit {g : Gr.Gm} {N m : Nat} {xs : List Int} {w w' : World} {e : Ending} (h : SPost g xs w e w') (hN : g.nons.toNat = N) (hm : xs.length + 1 = m) (hN0 : 0 < N) :
    ∃ (bo c B0 : Nat) (rows : List RowD) (T : Cf.Tb), e = .returned (.slice (some ⟨bo, 0, none⟩) N c) ∧ rows.length = N ∧ Tab B0 m (.slice (some ⟨bo, 0, none⟩) N c) rows T w' ∧ Cf.Sound g xs T ∧ Cf.Closed g xs T ∧ Bl w w' := by
  subst hN hm
  obtain ⟨A, c, B0, rows, T, he, hl, ht, h1, h2, h3⟩ := h
  obtain ⟨bo, co, hv, _, _⟩ := ht.own.form (by omega)
  injection hv with hv1 _ _
  subst hv1
  exact ⟨bo, c, B0, rows, T, he, hl, ht, h1, h2, h3⟩
theorem Tab.peek {B0 m N bo c n a b : Nat} {rows : List RowD} {T : Cf.Tb} {w : World} (h : Tab B0 m (.slice (some ⟨bo, 0, none⟩) N c) rows T w) (hl : rows.length = N) (hn : n < N) (ha : a < m) (hb : b < m) : ∃ r cr g, bo < w.heap.size ∧
    w.cell? ⟨bo, n, none⟩ = some (.slice (some ⟨r, 0, none⟩) m cr) ∧ r < w.heap.size ∧ w.cell? ⟨r, a, none⟩ = some (.slice (some ⟨g, 0, none⟩) m m) ∧ g < w.heap.size ∧ w.cell? ⟨g, b, none⟩ = some (.bool (T n a b)) := by
  obtain ⟨g, h1, h2, h3, h4, h5, h6, _⟩ := h.read0 (n := n) (by omega) ha hb
  exact ⟨_, _, g, h1, h2, h3, h4, h5, h6⟩
/-- The word that the law makes of bytes. -/
def mods (bs : List Nat) : List Int := ns (bs.map (· % 16))
theorem mods_len (bs : List Nat) : (mods bs).length = bs.length := by simp [mods, ns]
theorem mods_snoc {bs : List Nat} {k : Nat} (h : k < bs.length) : mods (bs.take (k + 1)) = mods (bs.take k) ++ [(bs[k] : Int) % 16] := by
  rw [List.take_succ_eq_append_getElem h]
  simp only [mods, ns, List.map_append, List.map_cons, List.map_nil]
  rfl

theorem word_int_info : (Try.prog.info? 3).map (fun i => (i.zero, i.size, i.bytes)) = some (some (.int .i64 0), 1, 8) := by kernel_rfl
end Go.Proofs.Ytckckejgocbkkaa
