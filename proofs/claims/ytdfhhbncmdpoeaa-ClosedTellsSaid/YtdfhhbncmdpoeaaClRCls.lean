/- The reference's Closed: are sets closed? -/
import Derived.Test.YtdfhhbncmdpoeaaClRTab
import Derived.Test.YtdfhhbncmdpoeaaRefT
import Derived.Test.YtdfhhbncmdpoeaaOOt
namespace Go.Proofs.Ytdfhhbncmdpoeaa
open Go.RowKit

theorem stands_no {ps : List Gr.Pr} {L : List (List Ix)} {a : Nat} {l : List Ix} (hl : L[a]? = some l) {x : Ix} (hx : x ∈ l) (h : standB ps a x = false) : standsB ps L = false := by
  rw [Bool.eq_false_iff]
  intro e
  rw [standsB_iff.1 e a l hl x hx] at h
  cases h
theorem out_len {g : Gr.Gm} {wd : List Int} {S : Nat → List Ch.Im} {a : Nat} {x : Ch.Im} (hp : g.prods.length ≤ 60) (hS : (S x.frm).length ≤ 13500) : (Ch.outI g wd S a x).1.length ≤ 13500 := by
  unfold Ch.outI
  cases Ch.symAt g x with
  | none => exact Nat.le_trans (lets_len _ _ _) hS
  | some s =>
    dsimp only
    split
    · unfold Ch.begs Ch.ofN
      rw [List.length_map]
      refine Nat.le_trans (List.length_filter_le _ _) ?_
      rw [List.length_range]
      omega
    · split <;> simp
theorem out_place {g : Gr.Gm} {wd : List Int} {S : Nat → List Ch.Im} {a : Nat} {x : Ch.Im} : (Ch.outI g wd S a x).2 ≤ a + 1 := by
  unfold Ch.outI
  cases Ch.symAt g x with
  | none => exact Nat.le_succ _
  | some s =>
    dsimp only
    split
    · exact Nat.le_succ _
    · split
      · exact Nat.le_refl _
      · exact Nat.le_succ _
set_option maxRecDepth 100000 in
set_option maxHeartbeats 16000000 in
theorem rclosed_any (t n s : Int) (A : Option Addr) (len c : Nat) (ps : List Gr.Pr) (Aw : Option Addr) (lw cw : Nat) (xs : List Int) (As : Option Addr) (ls cs : Nat) (L : List (List Ix)) (W : World) (hlen : len = ps.length) (hmax : len ≤ 9223372036854775807) (hr : Prs W W.heap.size A ps) (hlw : lw = xs.length) (hmw : lw ≤ 1000) (hrw : Rd W W.heap.size Aw (ins xs)) (hls : ls = L.length) (hL : L.length ≤ 100) (hM : ∀ l ∈ L, l.length ≤ 2000) (hs : SetsX W W.heap.size As L) :
    Calls Try.prog 9 #[.agg #[.int .i64 t, .int .i64 n, .int .i64 s, .slice A len c], .slice Aw lw cw, .slice As ls cs] W fun e w' => ∃ b : Bool, e = .returned (.bool b) ∧ (b = true ↔ ClosedP ⟨t, n, s, ps⟩ xs L) ∧ Bl W w' := by
  have HB0 : Hid (Bl W (W.alloc (.cells #[.int .i64 t, .int .i64 n, .int .i64 s, .slice A len c] 24))) := (Bl.refl W).alloc _
  have HK0 := Lib.hid (Bk.new W 24 #[.int .i64 t, .int .i64 n, .int .i64 s, .slice A len c])
  have HLn := Lib.hid hlen
  have HLw := Lib.hid hlw
  have HLs := Lib.hid hls
  have HL1 := Lib.hid hL
  have HMx := Lib.hid hM
  have HPr := Lib.hid (fun (wx : World) (hb : Bl W wx) => hr.bl (Nat.le_refl _) hb)
  have HRw := Lib.hid (fun (wx : World) (hb : Bl W wx) => hrw.bl (Nat.le_refl _) hb)
  have HSx := Lib.hid (fun (wx : World) (hb : Bl W wx) => hs.bl (Nat.le_refl _) hb)
  clear hlen hr hlw hrw hls hL hM hs
  go_enter Try.func9, Try.ntmps9
  have k0 := HK0.out.cell 0
  have k1 := HK0.out.cell 1
  have k2 := HK0.out.cell 2
  have k3 := HK0.out.cell 3
  go_wp2_with fail
  refine (rright_any t n s A len c ps _ W.heap.size HLn.out hmax (HPr.out _ HB0.out) HB0.out.size).mono ?_
  rintro e w1 ⟨rfl, hb1⟩
  have HB1 := Lib.hid (HB0.out.trans hb1)
  have HK1 := Lib.hid (HK0.out.bl hb1)
  clear hb1 HB0 HK0 k0 k1 k2 k3
  cases hok : okB ⟨t, n, s, ps⟩ with
  | false =>
    have HN : Hid (¬ ClosedP ⟨t, n, s, ps⟩ xs L) := fun h => by
      have h2 := (okB_iff _).2 (keepB_ok h.1).1
      rw [hok] at h2
      cases h2
    clear hok
    go_wp2_with fail
    go_ret
    exact ⟨false, rfl, ⟨fun h => (by cases h), fun h => (HN.out h).elim⟩, HB1.out⟩
  | true =>
  have HOk := Lib.hid hok
  clear hok
  by_cases h1 : ls < 1
  · have HN : Hid (¬ ClosedP ⟨t, n, s, ps⟩ xs L) := fun h => by
      have h2 := (keepB_ok h.1).2.1
      have h3 := HLs.out
      omega
    have d1 : decide ((ls : Int) < (1 : Int)) = true := decide_eq_true (by omega)
    clear h1
    go_wp2_with fail
    go_ret
    exact ⟨false, rfl, ⟨fun h => (by cases h), fun h => (HN.out h).elim⟩, HB1.out⟩
  have d1 : decide ((ls : Int) < (1 : Int)) = false := decide_eq_false (by omega)
  by_cases h2 : lw + 1 < ls
  · have HN : Hid (¬ ClosedP ⟨t, n, s, ps⟩ xs L) := fun h => by
      have h2 := (keepB_ok h.1).2.2.1
      have h3 := HLs.out
      have h4 := HLw.out
      omega
    have d2 : decide ((lw : Int) + 1 < (ls : Int)) = true := decide_eq_true (by omega)
    clear h2
    go_wp2_with fail
    go_ret
    exact ⟨false, rfl, ⟨fun h => (by cases h), fun h => (HN.out h).elim⟩, HB1.out⟩
  have d2 : decide ((lw : Int) + 1 < (ls : Int)) = false := decide_eq_false (by omega)
  have hls2 : ls ≤ 100 := by have := HL1.out; have := HLs.out; omega
  have H12 : Hid (1 ≤ ls ∧ ls ≤ lw + 1) := ⟨by omega, by omega⟩
  clear h1 h2
  go_wp2_with fail
  clear d1 d2
  go_loopw [7] (fun i wr => ∃ a : Nat, a ≤ ls ∧ i = .int .i64 (a : Int) ∧ Hid (Bl w1 wr) ∧ Hid (∀ b l, b < a → L[b]? = some l → ∀ x ∈ l, standB ps b x = true)) (fun i _ => ls - (intOf i).toNat)
  case atStart => exact ⟨0, Nat.zero_le _, rfl, Bl.refl _, fun b l hb => absurd hb (Nat.not_lt_zero _)⟩
  case round =>
    obtain ⟨a, ha, rfl, HBr, HD⟩ := hrel
    by_cases hlt : a < ls
    · have hal : a < L.length := by have := HLs.out; omega
      have HGa : Hid (L[a]? = some L[a]) := List.getElem?_eq_getElem hal
      have HRa : Hid (∀ wx, Bl wr wx → ∃ b off Ai ci, As = some ⟨b, off, none⟩ ∧ b < W.heap.size ∧ wx.cell? ⟨b, off + a, none⟩ = some (.slice Ai L[a].length ci) ∧ Rd wx W.heap.size Ai (ixRow L[a])) := fun wx hb => (HSx.out wx (HB1.out.trans (HBr.out.trans hb))).at_ hal
      have HMa : Hid (L[a].length ≤ 2000) := HMx.out _ (List.getElem_mem hal)
      generalize L[a] = l at *
      clear hal
      obtain ⟨b2, o2, A2, c2, hA, hb2, hc2, hr2⟩ := HRa.out wr (Bl.refl _)
      subst hA
      have hbl2 : b2 < wr.heap.size := Nat.lt_of_lt_of_le hb2 (HB1.out.trans HBr.out).size
      have HC2 : Hid (∀ wx, Bl wr wx → wx.cell? ⟨b2, o2 + a, none⟩ = some (.slice A2 l.length c2)) := fun wx hb => (World.cell?_of_block (hb.block b2 hbl2)).trans hc2
      have HR2 : Hid (∀ wx, Bl wr wx → Rd wx W.heap.size A2 (ixRow l)) := fun wx hb => hr2.bl (HB1.out.trans HBr.out).size hb
      clear hr2 HRa
      generalize hlm : l.length = m at *
      have HLm := Lib.hid hlm
      have hm2 : m ≤ 2000 := by have := HMa.out; omega
      clear hlm
      have q0 : (0 : Int) ≤ (a : Int) := by omega
      have q1 : (a : Int) < (ls : Int) := by omega
      go_wp2_with fail
      clear hc2 hb2
      obtain ⟨wk, hwk⟩ : ∃ wk : World, wk = wr := ⟨_, rfl⟩
      subst hwk
      go_loopw [8] (fun i wr => ∃ j : Nat, j ≤ m ∧ i = .int .i64 (j : Int) ∧ Hid (Bl wk wr) ∧ Hid (∀ x ∈ l.take j, standB ps a x = true)) (fun i _ => m - (intOf i).toNat)
      case atStart => exact ⟨0, Nat.zero_le _, rfl, Bl.refl _, fun x hx => by simp at hx⟩
      case round =>
        obtain ⟨j, hj, rfl, HBj, HDj⟩ := hrel
        have c2' := HC2.out wr HBj.out
        have hbj2 : b2 < wr.heap.size := Nat.lt_of_lt_of_le hbl2 HBj.out.size
        by_cases hjl : j < m
        · have hj1 : j < l.length := by have := HLm.out; omega
          have r0 : (0 : Int) ≤ (j : Int) := by omega
          have r1 : (j : Int) < (m : Int) := by omega
          obtain ⟨b3, o3, rfl, hb3, x0, x1, x2⟩ := (HR2.out wr HBj.out).ix hj1
          have hbl3 : b3 < wr.heap.size := by have := (HB1.out.trans (HBr.out.trans HBj.out)).size; omega
          have HM : Hid (l[j] ∈ l) := List.getElem_mem hj1
          have HTk : Hid (l.take (j + 1) = l.take j ++ [l[j]]) := take_snoc hj1
          generalize l[j] = x at *
          obtain ⟨xp, xd, xf⟩ := x
          simp only at x0 x1 x2
          clear hj1
          have HB9 : Hid (Bl wr (wr.alloc (.cells #[.int .i64 xp, .int .i64 xd, .int .i64 xf] 42))) := (Bl.refl wr).alloc _
          have HX9 := Lib.hid (Bk.new wr 42 #[.int .i64 xp, .int .i64 xd, .int .i64 xf])
          go_upto_region 10 with fail
          generalize wr.alloc (.cells #[.int .i64 xp, .int .i64 xd, .int .i64 xf] 42) = w9 at *
          generalize wr.heap.size = xb at *
          clear x0 x1 x2 hbl3 c2' hbj2 r0 r1
          go_cut [94] from 55 to 94 (fun v wx => v = .bool (!standB ps a ⟨xp, xd, xf⟩) ∧ Hid (Bl w9 wx))
          case first =>
            have HBk9 : Hid (Bl W w9) := HB1.out.trans (HBr.out.trans (HBj.out.trans HB9.out))
            have HK9 := Lib.hid (HK1.out.bl (HBr.out.trans (HBj.out.trans HB9.out)))
            have g3 : w9.cell? ⟨W.heap.size, 3, none⟩ = some (.slice A len c) := HK9.out.cell 3
            have gl := HK9.out.lt
            have x0 : w9.cell? ⟨xb, 0, none⟩ = some (.int .i64 xp) := HX9.out.cell 0
            have x1 : w9.cell? ⟨xb, 1, none⟩ = some (.int .i64 xd) := HX9.out.cell 1
            have x2 : w9.cell? ⟨xb, 2, none⟩ = some (.int .i64 xf) := HX9.out.cell 2
            have xl := HX9.out.lt
            have HDf : Hid (standB ps a ⟨xp, xd, xf⟩ = (mayIx ps ⟨xp, xd, xf⟩ && decide (0 ≤ xf ∧ xf ≤ (a : Int)))) := rfl
            have HMd : Hid (mayIx ps ⟨xp, xd, xf⟩ = (decide (0 ≤ xp ∧ xp < (ps.length : Int) ∧ 0 ≤ xd) && (match ps[xp.toNat]? with | some p => decide (xd ≤ (p.right.length : Int)) | none => false))) := rfl
            by_cases h1 : xp < 0
            · have HQ : Hid (standB ps a ⟨xp, xd, xf⟩ = false) := by
                show _ = _
                rw [HDf.out, HMd.out, decide_eq_false (p := 0 ≤ xp ∧ _) (by omega)]; rfl
              have e1 : decide (xp < (0 : Int)) = true := decide_eq_true h1
              go_quiet (fail)
              go_wp2_with fail
              go_meet
              exact ⟨by rw [HQ.out]; rfl, (Bl.refl w9).drewN _⟩
            have e1 : decide (xp < (0 : Int)) = false := decide_eq_false h1
            by_cases h2 : (len : Int) ≤ xp
            · have HQ : Hid (standB ps a ⟨xp, xd, xf⟩ = false) := by
                have := HLn.out
                show _ = _
                rw [HDf.out, HMd.out, decide_eq_false (p := 0 ≤ xp ∧ _) (by omega)]; rfl
              have e2 : decide ((len : Int) ≤ xp) = true := decide_eq_true h2
              go_quiet (fail)
              go_wp2_with fail
              go_meet
              exact ⟨by rw [HQ.out]; rfl, (Bl.refl w9).drewN _⟩
            have e2 : decide ((len : Int) ≤ xp) = false := decide_eq_false h2
            by_cases h3 : xd < 0
            · have HQ : Hid (standB ps a ⟨xp, xd, xf⟩ = false) := by
                show _ = _
                rw [HDf.out, HMd.out, decide_eq_false (p := 0 ≤ xp ∧ _) (by omega)]; rfl
              have e3 : decide (xd < (0 : Int)) = true := decide_eq_true h3
              go_quiet (fail)
              go_wp2_with fail
              go_meet
              exact ⟨by rw [HQ.out]; rfl, (Bl.refl w9).drewN _⟩
            have e3 : decide (xd < (0 : Int)) = false := decide_eq_false h3
            obtain ⟨i, rfl⟩ : ∃ i : Nat, xp = (i : Int) := ⟨xp.toNat, by omega⟩
            have hi : i < ps.length := by have := HLn.out; omega
            obtain ⟨bp, op, Ax, cx, rfl, hbp, _, _, hc1⟩ := (HPr.out w9 HBk9.out).at_ hi
            have hbpl : bp < w9.heap.size := Nat.lt_of_lt_of_le hbp HBk9.out.size
            have HS1 : Hid (standB ps a ⟨(i : Int), xd, xf⟩ = (decide (xd ≤ (ps[i].right.length : Int)) && decide (0 ≤ xf ∧ xf ≤ (a : Int)))) := by
              show _ = _
              rw [HDf.out, HMd.out, decide_eq_true (p := 0 ≤ (i : Int) ∧ _) (by omega), Bool.true_and]
              simp only [Int.toNat_natCast, List.getElem?_eq_getElem hi]
            have i0 : (0 : Int) ≤ (i : Int) := by omega
            have i1 : (i : Int) < (len : Int) := by omega
            have e2n : decide (len ≤ i) = false := decide_eq_false (by omega)
            generalize ps[i].right.length = rl at *
            clear h1 h2 h3 hbp e1 HMd
            have e1 : decide ((i : Int) < (0 : Int)) = false := decide_eq_false (by omega)
            by_cases h4 : (rl : Int) < xd
            · have HQ : Hid (standB ps a ⟨(i : Int), xd, xf⟩ = false) := by
                show _ = _
                rw [HS1.out, decide_eq_false (p := xd ≤ _) (by omega)]; rfl
              have e4 : decide ((rl : Int) < xd) = true := decide_eq_true h4
              go_quiet (fail)
              go_wp2_with fail
              go_meet
              exact ⟨by rw [HQ.out]; rfl, (Bl.refl w9).drewN _⟩
            have e4 : decide ((rl : Int) < xd) = false := decide_eq_false h4
            by_cases h5 : xf < 0
            · have HQ : Hid (standB ps a ⟨(i : Int), xd, xf⟩ = false) := by
                show _ = _
                rw [HS1.out, decide_eq_false (p := 0 ≤ xf ∧ _) (by omega), Bool.and_false]
              have e5 : decide (xf < (0 : Int)) = true := decide_eq_true h5
              go_quiet (fail)
              go_wp2_with fail
              go_meet
              exact ⟨by rw [HQ.out]; rfl, (Bl.refl w9).drewN _⟩
            have e5 : decide (xf < (0 : Int)) = false := decide_eq_false h5
            have HQ : Hid (standB ps a ⟨(i : Int), xd, xf⟩ = !decide ((a : Int) < xf)) := by
              show _ = _
              rw [HS1.out, decide_eq_true (p := xd ≤ _) (by omega), Bool.true_and]
              by_cases h6 : (a : Int) < xf
              · rw [decide_eq_true h6, decide_eq_false (p := 0 ≤ xf ∧ _) (by omega)]; rfl
              · rw [decide_eq_false h6, decide_eq_true (p := 0 ≤ xf ∧ _) (by omega)]; rfl
            clear h4 h5
            go_quiet (fail)
            go_wp2_with fail
            go_meet
            exact ⟨by rw [HQ.out, Bool.not_not], (Bl.refl w9).drewN _⟩
          case rest =>
            obtain ⟨rfl, HBc⟩ := hcut
            have HBn := Lib.hid (HBj.out.trans (HB9.out.trans HBc.out))
            cases hq : standB ps a ⟨xp, xd, xf⟩ with
            | false =>
              have HN : Hid (¬ ClosedP ⟨t, n, s, ps⟩ xs L) := fun h => by
                have h2 := (keepB_ok h.1).2.2.2 a l HGa.out _ HM.out
                rw [hq] at h2
                cases h2
              clear hq
              go_wp2_with fail
              go_ret
              exact ⟨false, rfl, ⟨fun h => (by cases h), fun h => (HN.out h).elim⟩, HB1.out.trans (HBr.out.trans HBn.out)⟩
            | true =>
              have HN : Hid (∀ x ∈ l.take (j + 1), standB ps a x = true) := fun x hx => by
                rw [HTk.out, List.mem_append, List.mem_singleton] at hx
                rcases hx with hx | rfl
                · exact HDj.out x hx
                · exact hq
              clear hq
              go_wp2_with fail
              go_roundw
              case rel => exact ⟨j + 1, by omega, by go_num, HBn.out, HN.out⟩
              case measure => simp [intOf]; omega
        · have r1 : ¬ (j : Int) < (m : Int) := by omega
          have HN : Hid (∀ b l, b < a + 1 → L[b]? = some l → ∀ x ∈ l, standB ps b x = true) := fun b l9 hb hl9 x hx => by
            rcases Nat.lt_or_ge b a with h9 | h9
            · exact HD.out b l9 h9 hl9 x hx
            · have e : b = a := by omega
              subst e
              rw [HGa.out] at hl9
              injection hl9 with hl9
              subst hl9
              have h8 := HDj.out
              rw [List.take_of_length_le (by have := HLm.out; omega)] at h8
              exact h8 x hx
          have HBn := Lib.hid (HBr.out.trans HBj.out)
          go_wp2_with fail
          go_roundw
          case rel => exact ⟨a + 1, by omega, by go_num, HBn.out, HN.out⟩
          case measure => simp [intOf]; omega
    · have HKb : Hid (keepB ⟨t, n, s, ps⟩ xs.length L = true) := by
        have h1 := H12.out
        have h2 := HLs.out
        have h3 := HLw.out
        show _ = true
        unfold keepB
        rw [HOk.out, Bool.true_and, Bool.and_eq_true, decide_eq_true_eq]
        exact ⟨by omega, standsB_iff.2 fun b l hl x hx => HD.out b l (by have := Ch.lt_of_get hl; omega) hl x hx⟩
      have HB2 := Lib.hid (HB1.out.trans HBr.out)
      have HK2 := Lib.hid (HK1.out.bl HBr.out)
      have hl60 : len ≤ 60 := by have h1 := ((okB_iff _).1 HOk.out).2.2.2.2.2.2.1; have h2 := HLn.out; simp only at h1; omega
      have HRl : Hid (∀ i (h : i < ps.length), ps[i].right.length ≤ 1000) := fun i h => by have h1 := (((okB_iff _).1 HOk.out).2.2.2.2.2.2.2 _ (List.getElem_mem h)).2.2.1; omega
      obtain ⟨b2, o2, A0, c0, hA, hb2, -, -⟩ := (HSx.out wr HB2.out).at_ (i := 0) (by have := H12.out; have := HLs.out; omega)
      subst hA
      have HT : Hid (∀ wx, Bl W wx → TabX wx b2 o2 ls (rowI L)) := fun wx hb => by rw [HLs.out]; exact tab_of HKb.out (HSx.out wx hb) hb.size
      clear HD HBr HB1 HK1 HSx
      have k0 : wr.cell? ⟨W.heap.size, 0, none⟩ = some (.int .i64 t) := HK2.out.cell 0
      have k1 : wr.cell? ⟨W.heap.size, 1, none⟩ = some (.int .i64 n) := HK2.out.cell 1
      have k2 : wr.cell? ⟨W.heap.size, 2, none⟩ = some (.int .i64 s) := HK2.out.cell 2
      have k3 : wr.cell? ⟨W.heap.size, 3, none⟩ = some (.slice A len c) := HK2.out.cell 3
      have kl := HK2.out.lt
      go_wp2_with fail
      refine (roft_any t n s s A len c ps wr W.heap.size HLn.out (by omega) (HPr.out wr HB2.out) HB2.out.size).mono ?_
      rintro e w3 ⟨A3, c3, rfl, hc3, ho3, hb3⟩
      have HB3 := Lib.hid (HB2.out.trans hb3)
      have HK3 := Lib.hid (HK2.out.bl hb3)
      have HRd3 := Lib.hid (Rd.own ho3)
      have hlst : ofK ps s ps.length = Ch.ofN ps s := rfl
      rw [hlst] at HRd3 ⊢
      have hl9 : (ns (Ch.ofN ps s)).length ≤ 60 := by rw [ns_len]; have h1 := ofK_len ps s ps.length; rw [hlst] at h1; have := HLn.out; omega
      have HN3 : Hid ((Ch.ofN ps s).length = (ns (Ch.ofN ps s)).length) := (ns_len _).symm
      have HBg : Hid (∀ y, y ∈ Ch.begs ⟨t, n, s, ps⟩ 0 s ↔ ∃ j ∈ Ch.ofN ps s, y = ⟨j, 0, 0⟩) := fun y => by
        unfold Ch.begs
        rw [List.mem_map]
        constructor
        · rintro ⟨j, hj, rfl⟩; exact ⟨j, hj, rfl⟩
        · rintro ⟨j, hj, rfl⟩; exact ⟨j, hj, rfl⟩
      have HRall := Lib.hid (rall_iff HKb.out)
      clear hb3 ho3 hc3 hlst k0 k1 k2 k3 kl HB2 HK2
      generalize (ns (Ch.ofN ps s)).length = m at *
      generalize Ch.ofN ps s = lst at *
      have HFew := Lib.hid (row_few HMx.out)
      have HIn := Lib.hid (fun (a : Nat) (ha : a < L.length) (y : Ch.Im) (hy : y ∈ rowI L a) => row_in HKb.out ha hy)
      go_wp2_with fail
      go_loopw [11] (fun i wx => ∃ k : Nat, k ≤ m ∧ i = .int .i64 (k : Int) ∧ Hid (Bl w3 wx) ∧ Hid (∀ j ∈ lst.take k, (⟨j, 0, 0⟩ : Ch.Im) ∈ rowI L 0)) (fun i _ => m - (intOf i).toNat)
      case atStart => exact ⟨0, Nat.zero_le _, rfl, Bl.refl _, fun j hj => by simp at hj⟩
      case round =>
        obtain ⟨k, hk, rfl, HBr, HJ⟩ := hrel
        by_cases hlt : k < m
        · have hkl : k < lst.length := by have := HN3.out; omega
          have hkn : k < (ns lst).length := by rw [ns_len]; exact hkl
          obtain ⟨bl, ol, hA3, hbl, q0⟩ := (HRd3.out.bl (Nat.le_refl _) HBr.out).int hkn
          have e9 : (ns lst)[k] = (lst[k] : Int) := by simp [ns]
          rw [e9] at q0
          have HTk : Hid (lst.take (k + 1) = lst.take k ++ [lst[k]]) := take_snoc hkl
          have HMe : Hid (lst[k] ∈ lst) := List.getElem_mem hkl
          subst hA3
          generalize lst[k] = jn at *
          clear hkn e9 hkl
          have HBw := Lib.hid (HB3.out.trans HBr.out)
          obtain ⟨Ai, ci, z0, hri⟩ := (HT.out wr HBw.out).2 0 (by have := H12.out; omega)
          have tlt := (HT.out wr HBw.out).1
          have hl2 : (rowI L 0).length ≤ 2000 := HFew.out 0
          have HBd : Hid (Bl wr wr.drew) := (Bl.refl wr).drew
          have HHas : Hid (Calls Try.prog 20 #[.slice Ai (rowI L 0).length ci, .agg #[.int .i64 (jn : Int), .int .i64 0, .int .i64 0]] wr.drew fun e w' => e = .returned (.bool (decide ((⟨jn, 0, 0⟩ : Ch.Im) ∈ rowI L 0))) ∧ Bl wr.drew w') := rhasm_any Ai (rowI L 0).length ci (rowI L 0) ⟨jn, 0, 0⟩ wr.drew wr.heap.size rfl (by omega) (hri.bl (Nat.le_refl _) HBd.out) HBd.out.size
          have hbl2 : bl < wr.heap.size := Nat.lt_of_lt_of_le hbl HBr.out.size
          have z0 : wr.cell? ⟨b2, o2, none⟩ = some (.slice Ai (rowI L 0).length ci) := z0
          have HPx : Hid (∀ wx, Bl wr wx → wx.cell? ⟨b2, o2, none⟩ = some (.slice Ai (rowI L 0).length ci) ∧ wx.cell? ⟨bl, ol + k, none⟩ = some (.int .i64 (jn : Int))) := fun wx hb => ⟨(Below.cell hb (p := ⟨b2, o2, none⟩) tlt).trans z0, (Below.cell hb (p := ⟨bl, ol + k, none⟩) hbl2).trans q0⟩
          clear z0 hri tlt q0 hbl
          have hk0 : (0 : Int) ≤ (k : Int) := by omega
          have hk1 : (k : Int) < (m : Int) := by omega
          have hls0 : (0 : Int) < (ls : Int) := by have := H12.out; omega
          have hls1 : 0 < ls := by have := H12.out; omega
          have tk1 : True := trivial
          generalize hrl : (rowI L 0).length = nr at *
          go_upto_region 16 with fail
          by_cases hin : (⟨jn, 0, 0⟩ : Ch.Im) ∈ rowI L 0
          · rw [decide_eq_true hin] at HHas
            have HJ1 : Hid (∀ j ∈ lst.take (k + 1), (⟨j, 0, 0⟩ : Ch.Im) ∈ rowI L 0) := fun j hj => by
              rw [HTk.out, List.mem_append, List.mem_singleton] at hj
              rcases hj with hj | rfl
              · exact HJ.out j hj
              · exact hin
            clear hin
            go_region_held3 (fun wx => wx.cell? ⟨b2, o2, none⟩ = some (.slice Ai nr ci) ∧ wx.cell? ⟨bl, ol + k, none⟩ = some (.int .i64 (jn : Int))) (first | exact HPx.out _ HBd.out | exact HPx.out _ HB5.out) (first
              | (go_at_call 20; have _t := tk1; ((with_reducible refine HHas.out.mono ?_); rintro e w5 ⟨rfl, hb5⟩; have HB5 : Hid (Bl wr w5) := HBd.out.trans hb5; clear tk1 hb5))
              | fail)
            have HBx := Lib.hid (HBr.out.trans HB5.out)
            go_wp2_with fail
            go_roundw
            case rel => exact ⟨k + 1, by omega, by go_num, HBx.out, HJ1.out⟩
            case measure => simp [intOf]; omega
          · rw [decide_eq_false hin] at HHas
            have HN : Hid (¬ ClosedP ⟨t, n, s, ps⟩ xs L) := fun h => hin ((HRall.out.2 h.2).1 _ ((HBg.out _).2 ⟨jn, HMe.out, rfl⟩))
            clear hin
            go_region_held3 (fun wx => wx.cell? ⟨b2, o2, none⟩ = some (.slice Ai nr ci) ∧ wx.cell? ⟨bl, ol + k, none⟩ = some (.int .i64 (jn : Int))) (first | exact HPx.out _ HBd.out | exact HPx.out _ HB5.out) (first
              | (go_at_call 20; have _t := tk1; ((with_reducible refine HHas.out.mono ?_); rintro e w5 ⟨rfl, hb5⟩; have HB5 : Hid (Bl wr w5) := HBd.out.trans hb5; clear tk1 hb5))
              | fail)
            have HBx := Lib.hid (HB3.out.trans (HBr.out.trans HB5.out))
            go_wp2_with fail
            go_ret
            exact ⟨false, rfl, ⟨fun h => (by cases h), fun h => (HN.out h).elim⟩, HBx.out⟩
        · have HBeg : Hid (∀ y ∈ Ch.begs ⟨t, n, s, ps⟩ 0 s, y ∈ rowI L 0) := fun y hy => by
            obtain ⟨j, hj, rfl⟩ := (HBg.out y).1 hy
            have h8 := HJ.out
            rw [List.take_of_length_le (by have := HN3.out; omega)] at h8
            exact h8 j hj
          have HBw := Lib.hid (HB3.out.trans HBr.out)
          have HKw := Lib.hid (HK3.out.bl HBr.out)
          clear HJ HBg HMx HRd3 HN3 hl9 HK3 HB3 HBr
          have hm1 : ¬ (k : Int) < (m : Int) := by omega
          go_wp2_with fail
          clear hm1 hlt hk
          obtain ⟨wb, hwb⟩ : ∃ wb : World, wb = wr := ⟨_, rfl⟩
          subst hwb
          go_loopw [12] (fun i wx => ∃ a : Nat, a ≤ ls ∧ i = .int .i64 (a : Int) ∧ Hid (Bl wb wx) ∧ Hid (∀ b, b < a → ∀ y ∈ rowI L b, Wanted ⟨t, n, s, ps⟩ xs L b y)) (fun i _ => ls - (intOf i).toNat)
          case atStart => exact ⟨0, Nat.zero_le _, rfl, Bl.refl _, fun b hb => absurd hb (Nat.not_lt_zero _)⟩
          case round =>
            obtain ⟨a, ha, rfl, HBa, HWa⟩ := hrel
            by_cases hal : a < ls
            · have q0 : (0 : Int) ≤ (a : Int) := by omega
              have q1 : (a : Int) < (ls : Int) := by omega
              obtain ⟨l, hgl⟩ : ∃ l, l = rowI L a := ⟨_, rfl⟩
              have HGl := Lib.hid hgl
              clear hgl
              have HRow : Hid (∀ wx, Bl W wx → b2 < wx.heap.size ∧ ∃ Ai ci, wx.cell? ⟨b2, o2 + a, none⟩ = some (.slice Ai l.length ci) ∧ Rd wx wx.heap.size Ai (imRow l)) := fun wx hb => ⟨(HT.out wx hb).1, by rw [HGl.out]; exact (HT.out wx hb).2 a hal⟩
              have HInl : Hid (∀ y ∈ l, imIn ⟨t, n, s, ps⟩ y ∧ y.frm ≤ a) := fun y hy => HIn.out a (by have := HLs.out; omega) y (by rw [← HGl.out]; exact hy)
              have hm2 : l.length ≤ 2000 := by rw [HGl.out]; exact HFew.out a
              generalize hlm : l.length = mm at *
              have HLm := Lib.hid hlm
              clear hlm
              go_wp2_with fail
              obtain ⟨wk, hwk⟩ : ∃ wk : World, wk = wr := ⟨_, rfl⟩
              subst hwk
              have HBk := Lib.hid (HBw.out.trans HBa.out)
              have HKk := Lib.hid (HKw.out.bl HBa.out)
              go_loopw [13] (fun i wx => ∃ j : Nat, j ≤ mm ∧ i = .int .i64 (j : Int) ∧ Hid (Bl wk wx) ∧ Hid (∀ y ∈ l.take j, Wanted ⟨t, n, s, ps⟩ xs L a y)) (fun i _ => mm - (intOf i).toNat)
              case atStart => exact ⟨0, Nat.zero_le _, rfl, Bl.refl _, fun y hy => by simp at hy⟩
              case round =>
                obtain ⟨j, hj, rfl, HBj, HWj⟩ := hrel
                have HB7 := Lib.hid (HBk.out.trans HBj.out)
                obtain ⟨tlt, Ai, ci, z0, hri⟩ := HRow.out wr HB7.out
                by_cases hjl : j < mm
                · have hj1 : j < l.length := by have := HLm.out; omega
                  obtain ⟨bh, oh, hAi, hbh, x0, x1, x2⟩ := hri.item hj1
                  have HIx := Lib.hid (HInl.out _ (List.getElem_mem hj1))
                  have HTk : Hid (l.take (j + 1) = l.take j ++ [l[j]]) := take_snoc hj1
                  have HMe : Hid (l[j] ∈ rowI L a) := by rw [← HGl.out]; exact List.getElem_mem hj1
                  generalize l[j] = x at *
                  have HKr := Lib.hid (HKk.out.bl HBj.out)
                  have HBd : Hid (Bl wr wr.drew) := (Bl.refl wr).drew
                  have HAd := Lib.hid (radds_any t n s A len c ps Aw lw cw xs b2 o2 ls cs (rowI L) x a wr.drew HLn.out hl60 HRl.out ((HPr.out _ (HB7.out.trans HBd.out)).more (HB7.out.trans HBd.out).size) HLw.out hmw ((HRw.out _ (HB7.out.trans HBd.out)).more (HB7.out.trans HBd.out).size) (HT.out _ (HB7.out.trans HBd.out)) HIx.out.1 (by have := HIx.out.2; omega) (fun b hb y hy => (HIn.out b (by have := HLs.out; omega) y hy).1) (fun b hb => by have := HFew.out b; omega) (by omega))
                  have HOu : Hid (∀ ou pl, Ch.outI ⟨t, n, s, ps⟩ xs (rowI L) a x = (ou, pl) → (Wanted ⟨t, n, s, ps⟩ xs L a x ↔ ∀ z ∈ ou, pl < L.length → z ∈ rowI L pl)) := fun ou pl e => by unfold Wanted; rw [e]
                  have HLo := Lib.hid (out_len (g := ⟨t, n, s, ps⟩) (wd := xs) (S := rowI L) (a := a) (x := x) (by have := HLn.out; show ps.length ≤ 60; omega) (by have := HFew.out x.frm; omega))
                  have HPl := Lib.hid (out_place (g := ⟨t, n, s, ps⟩) (wd := xs) (S := rowI L) (a := a) (x := x))
                  generalize Ch.outI ⟨t, n, s, ps⟩ xs (rowI L) a x = op at *
                  obtain ⟨ou, pl⟩ := op
                  have HWi := Lib.hid (HOu.out ou pl rfl)
                  have hlo : ou.length ≤ 13500 := HLo.out
                  have hpl : pl ≤ a + 1 := HPl.out
                  have HAd2 : Hid (Calls Try.prog 21 #[.agg #[.int .i64 t, .int .i64 n, .int .i64 s, .slice A len c], .slice Aw lw cw, .slice (some ⟨b2, o2, none⟩) ls cs, .agg #[.int .i64 (x.prod : Int), .int .i64 (x.dot : Int), .int .i64 (x.frm : Int)], .int .i64 (a : Int)] wr.drew (AddsP ou pl wr.drew)) := HAd.out
                  clear HOu HLo HPl HAd
                  subst hAi
                  have HPx : Hid (∀ wx, Bl wr wx → (fun wx => wx.cell? ⟨W.heap.size, 0, none⟩ = some (.int .i64 t) ∧ wx.cell? ⟨W.heap.size, 1, none⟩ = some (.int .i64 n) ∧ wx.cell? ⟨W.heap.size, 2, none⟩ = some (.int .i64 s) ∧ wx.cell? ⟨W.heap.size, 3, none⟩ = some (.slice A len c) ∧ wx.cell? ⟨b2, o2 + a, none⟩ = some (.slice (some ⟨bh, oh, none⟩) mm ci) ∧ wx.cell? ⟨bh, oh + j * 3, none⟩ = some (.int .i64 (x.prod : Int)) ∧ wx.cell? ⟨bh, oh + j * 3 + 1, none⟩ = some (.int .i64 (x.dot : Int)) ∧ wx.cell? ⟨bh, oh + j * 3 + 2, none⟩ = some (.int .i64 (x.frm : Int))) wx) := fun wx hb => by
                    have h1 := HKr.out.bl hb
                    exact ⟨h1.cell 0, h1.cell 1, h1.cell 2, h1.cell 3, (Below.cell hb (p := ⟨b2, o2 + a, none⟩) tlt).trans z0, (Below.cell hb (p := ⟨bh, oh + j * 3, none⟩) hbh).trans x0, (Below.cell hb (p := ⟨bh, oh + j * 3 + 1, none⟩) hbh).trans x1, (Below.cell hb (p := ⟨bh, oh + j * 3 + 2, none⟩) hbh).trans x2⟩
                  have r0 : (0 : Int) ≤ (j : Int) := by omega
                  have r1 : (j : Int) < (mm : Int) := by omega
                  have tk1 : True := trivial
                  go_upto_region 24 with fail
                  clear x0 x1 x2 z0 hj1 hri tlt
                  go_region_held3 (fun wx => wx.cell? ⟨W.heap.size, 0, none⟩ = some (.int .i64 t) ∧ wx.cell? ⟨W.heap.size, 1, none⟩ = some (.int .i64 n) ∧ wx.cell? ⟨W.heap.size, 2, none⟩ = some (.int .i64 s) ∧ wx.cell? ⟨W.heap.size, 3, none⟩ = some (.slice A len c) ∧ wx.cell? ⟨b2, o2 + a, none⟩ = some (.slice (some ⟨bh, oh, none⟩) mm ci) ∧ wx.cell? ⟨bh, oh + j * 3, none⟩ = some (.int .i64 (x.prod : Int)) ∧ wx.cell? ⟨bh, oh + j * 3 + 1, none⟩ = some (.int .i64 (x.dot : Int)) ∧ wx.cell? ⟨bh, oh + j * 3 + 2, none⟩ = some (.int .i64 (x.frm : Int))) (first | exact HPx.out _ HBd.out | exact HPx.out _ HB5.out) (first
                    | (go_at_call 21; have _t := tk1; ((with_reducible refine HAd2.out.mono ?_); rintro e w5 ⟨A8, c8, A9, c9, rfl, hr8, hr9, hb5⟩; have HB5 : Hid (Bl wr w5) := Bl.undrew hb5; have HR8 := Lib.hid hr8; have HR9 := Lib.hid hr9; clear tk1 hb5 hr8 hr9))
                    | fail)
                  have HB75 := Lib.hid (HB7.out.trans HB5.out)
                  have HBj5 := Lib.hid (HBj.out.trans HB5.out)
                  clear HBd HAd2 HPx HKr HB7 HBj HB5
                  generalize hlo9 : ou.length = lo at *
                  have HLo2 := Lib.hid hlo9
                  clear hlo9
                  go_wp2_with fail
                  go_loopw [16] (fun i wx => ∃ q : Nat, q ≤ lo ∧ i = .int .i64 (q : Int) ∧ Hid (Bl w5 wx) ∧ Hid (∀ z ∈ ou.take q, pl < L.length → z ∈ rowI L pl)) (fun i _ => lo - (intOf i).toNat)
                  case atStart => exact ⟨0, Nat.zero_le _, rfl, Bl.refl _, fun z hz => by simp at hz⟩
                  case round =>
                    obtain ⟨q, hq, rfl, HBq, HWq⟩ := hrel
                    by_cases hql : q < lo
                    · have hqo : q < ou.length := by have := HLo2.out; omega
                      obtain ⟨bo, oo, hA8, hbo, y0, y1, y2⟩ := (HR8.out.bl (Nat.le_refl _) HBq.out).item hqo
                      obtain ⟨bp, op, hA9, hbp, p0⟩ := (HR9.out.bl (Nat.le_refl _) HBq.out).int (j := q) (by rw [List.length_replicate]; exact hql)
                      rw [List.getElem_replicate] at p0
                      have HTq : Hid (ou.take (q + 1) = ou.take q ++ [ou[q]]) := take_snoc hqo
                      have HMo : Hid (ou[q] ∈ ou) := List.getElem_mem hqo
                      generalize ou[q] = y at *
                      have hbo2 : bo < wr.heap.size := Nat.lt_of_lt_of_le hbo HBq.out.size
                      have hbp2 : bp < wr.heap.size := Nat.lt_of_lt_of_le hbp HBq.out.size
                      have HB8 := Lib.hid (HB75.out.trans HBq.out)
                      have HBd : Hid (Bl wr wr.drew) := (Bl.refl wr).drew
                      have hq0 : (0 : Int) ≤ (q : Int) := by omega
                      have hq1 : (q : Int) < (lo : Int) := by omega
                      clear hqo
                      subst hA8 hA9
                      by_cases hps : pl < ls
                      · have hpL : pl < L.length := by have := HLs.out; omega
                        obtain ⟨tlt, hrow⟩ := HT.out wr HB8.out
                        obtain ⟨Ap, cp, z0, hrp⟩ := hrow pl hps
                        have hlp := HFew.out pl
                        have HHas := Lib.hid (rhasm_any Ap (rowI L pl).length cp (rowI L pl) y wr.drew wr.heap.size rfl (by omega) (hrp.bl (Nat.le_refl _) HBd.out) HBd.out.size)
                        have HPx : Hid (∀ wx, Bl wr wx → wx.cell? ⟨bp, op + q, none⟩ = some (.int .i64 (pl : Int)) ∧ wx.cell? ⟨b2, o2 + pl, none⟩ = some (.slice Ap (rowI L pl).length cp) ∧ wx.cell? ⟨bo, oo + q * 3, none⟩ = some (.int .i64 (y.prod : Int)) ∧ wx.cell? ⟨bo, oo + q * 3 + 1, none⟩ = some (.int .i64 (y.dot : Int)) ∧ wx.cell? ⟨bo, oo + q * 3 + 2, none⟩ = some (.int .i64 (y.frm : Int))) := fun wx hb =>
                          ⟨(Below.cell hb (p := ⟨bp, op + q, none⟩) hbp2).trans p0, (Below.cell hb (p := ⟨b2, o2 + pl, none⟩) tlt).trans z0, (Below.cell hb (p := ⟨bo, oo + q * 3, none⟩) hbo2).trans y0, (Below.cell hb (p := ⟨bo, oo + q * 3 + 1, none⟩) hbo2).trans y1, (Below.cell hb (p := ⟨bo, oo + q * 3 + 2, none⟩) hbo2).trans y2⟩
                        have d1 : decide (((pl : Nat) : Int) < (ls : Int)) = true := decide_eq_true (by omega)
                        have p1 : (0 : Int) ≤ (pl : Int) := by omega
                        have p2 : (pl : Int) < (ls : Int) := by omega
                        have tk1 : True := trivial
                        clear y0 y1 y2 p0 z0 hrp hrow
                        generalize hnp : (rowI L pl).length = np at *
                        clear hnp
                        go_upto_region 28 with fail
                        by_cases hin : y ∈ rowI L pl
                        · rw [decide_eq_true hin] at HHas
                          have HW1 : Hid (∀ z ∈ ou.take (q + 1), pl < L.length → z ∈ rowI L pl) := fun z hz h9 => by
                            rw [HTq.out, List.mem_append, List.mem_singleton] at hz
                            rcases hz with hz | rfl
                            · exact HWq.out z hz h9
                            · exact hin
                          clear hin
                          go_region_held3 (fun wx => wx.cell? ⟨bp, op + q, none⟩ = some (.int .i64 (pl : Int)) ∧ wx.cell? ⟨b2, o2 + pl, none⟩ = some (.slice Ap np cp) ∧ wx.cell? ⟨bo, oo + q * 3, none⟩ = some (.int .i64 (y.prod : Int)) ∧ wx.cell? ⟨bo, oo + q * 3 + 1, none⟩ = some (.int .i64 (y.dot : Int)) ∧ wx.cell? ⟨bo, oo + q * 3 + 2, none⟩ = some (.int .i64 (y.frm : Int))) (first | exact HPx.out _ HBd.out | exact HPx.out _ HB9.out) (first
                            | (go_at_call 20; have _t := tk1; ((with_reducible refine HHas.out.mono ?_); rintro e w9 ⟨rfl, hb9⟩; have HB9 : Hid (Bl wr w9) := HBd.out.trans hb9; clear tk1 hb9))
                            | fail)
                          have HBx := Lib.hid (HBq.out.trans HB9.out)
                          go_wp2_with fail
                          go_roundw
                          case rel => exact ⟨q + 1, by omega, by go_num, HBx.out, HW1.out⟩
                          case measure => simp [intOf]; omega
                        · rw [decide_eq_false hin] at HHas
                          have HN : Hid (¬ ClosedP ⟨t, n, s, ps⟩ xs L) := fun h => hin ((HWi.out.1 ((HRall.out.2 h.2).2 a (by have := HLs.out; omega) x HMe.out)) y HMo.out hpL)
                          clear hin
                          go_region_held3 (fun wx => wx.cell? ⟨bp, op + q, none⟩ = some (.int .i64 (pl : Int)) ∧ wx.cell? ⟨b2, o2 + pl, none⟩ = some (.slice Ap np cp) ∧ wx.cell? ⟨bo, oo + q * 3, none⟩ = some (.int .i64 (y.prod : Int)) ∧ wx.cell? ⟨bo, oo + q * 3 + 1, none⟩ = some (.int .i64 (y.dot : Int)) ∧ wx.cell? ⟨bo, oo + q * 3 + 2, none⟩ = some (.int .i64 (y.frm : Int))) (first | exact HPx.out _ HBd.out | exact HPx.out _ HB9.out) (first
                            | (go_at_call 20; have _t := tk1; ((with_reducible refine HHas.out.mono ?_); rintro e w9 ⟨rfl, hb9⟩; have HB9 : Hid (Bl wr w9) := HBd.out.trans hb9; clear tk1 hb9))
                            | fail)
                          have HBx := Lib.hid (HB8.out.trans HB9.out)
                          go_wp2_with fail
                          go_ret
                          exact ⟨false, rfl, ⟨fun h => (by cases h), fun h => (HN.out h).elim⟩, HBx.out⟩
                      · have hpL : ¬ pl < L.length := by have := HLs.out; omega
                        have d1 : decide (((pl : Nat) : Int) < (ls : Int)) = false := decide_eq_false (by omega)
                        have d2 : decide (pl < ls) = false := decide_eq_false hps
                        have HW1 : Hid (∀ z ∈ ou.take (q + 1), pl < L.length → z ∈ rowI L pl) := fun z hz h9 => absurd h9 hpL
                        clear y0 y1 y2 hps
                        go_upto_region 28 with fail
                        go_quiet (fail)
                        go_wp2_with fail
                        go_roundw
                        case rel => exact ⟨q + 1, by omega, by go_num, HBq.out.drewN _, HW1.out⟩
                        case measure => simp [intOf]; omega
                    · have HWx : Hid (Wanted ⟨t, n, s, ps⟩ xs L a x) := HWi.out.2 fun z hz h9 => by
                        have h8 := HWq.out
                        rw [List.take_of_length_le (by have := HLo2.out; omega)] at h8
                        exact h8 z hz h9
                      have HW1 : Hid (∀ y ∈ l.take (j + 1), Wanted ⟨t, n, s, ps⟩ xs L a y) := fun y hy => by
                        rw [HTk.out, List.mem_append, List.mem_singleton] at hy
                        rcases hy with hy | rfl
                        · exact HWj.out y hy
                        · exact HWx.out
                      have HBx := Lib.hid (HBj5.out.trans HBq.out)
                      have hq1 : ¬ (q : Int) < (lo : Int) := by omega
                      go_wp2_with fail
                      go_roundw
                      case rel => exact ⟨j + 1, by omega, by go_num, HBx.out, HW1.out⟩
                      case measure => simp [intOf]; omega
                · have HW1 : Hid (∀ b, b < a + 1 → ∀ y ∈ rowI L b, Wanted ⟨t, n, s, ps⟩ xs L b y) := fun b hb y hy => by
                    rcases Nat.lt_or_ge b a with h9 | h9
                    · exact HWa.out b h9 y hy
                    · have e : b = a := by omega
                      subst e
                      have h8 := HWj.out
                      rw [List.take_of_length_le (by have := HLm.out; omega), HGl.out] at h8
                      exact h8 y hy
                  have HBx := Lib.hid (HBa.out.trans HBj.out)
                  have r1 : ¬ (j : Int) < (mm : Int) := by omega
                  go_wp2_with fail
                  go_roundw
                  case rel => exact ⟨a + 1, by omega, by go_num, HBx.out, HW1.out⟩
                  case measure => simp [intOf]; omega
            · have HY : Hid (ClosedP ⟨t, n, s, ps⟩ xs L) := ⟨HKb.out, HRall.out.1 ⟨HBeg.out, fun b hb y hy => HWa.out b (by have := HLs.out; omega) y hy⟩⟩
              have HBx := Lib.hid (HBw.out.trans HBa.out)
              have q1 : ¬ (a : Int) < (ls : Int) := by omega
              go_wp2_with fail
              go_ret
              exact .inr ⟨rfl, HY.out, HBx.out⟩
end Go.Proofs.Ytdfhhbncmdpoeaa
