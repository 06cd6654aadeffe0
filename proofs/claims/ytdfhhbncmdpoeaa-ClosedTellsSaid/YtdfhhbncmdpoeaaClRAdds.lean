/- The reference's Adds, of sets that came in (made by tools/genclradds.py). -/
import Derived.Test.YtdfhhbncmdpoeaaPlainS
import Derived.Test.YtdfhhbncmdpoeaaChRWh
import Derived.Test.YtdfhhbncmdpoeaaItemB
import Derived.Test.YtdfhhbncmdpoeaaOOt
namespace Go.Proofs.Ytdfhhbncmdpoeaa
open Go.RowKit

/-- A table of sets that came in: a slice for each place. -/
def TabX (w : World) (tb ofs m : Nat) (S : Nat → List Ch.Im) : Prop :=
  tb < w.heap.size ∧ ∀ i, i < m → ∃ Ai ci, w.cell? ⟨tb, ofs + i, none⟩ = some (.slice Ai (S i).length ci) ∧ Rd w w.heap.size Ai (imRow (S i))
theorem TabX.bl {w w' : World} {tb ofs m : Nat} {S : Nat → List Ch.Im} (h : TabX w tb ofs m S) (hb : Bl w w') : TabX w' tb ofs m S := by
  refine ⟨Nat.lt_of_lt_of_le h.1 hb.size, fun i hi => ?_⟩
  obtain ⟨Ai, ci, h1, h3⟩ := h.2 i hi
  exact ⟨Ai, ci, (Below.cell hb (p := ⟨tb, ofs + i, none⟩) h.1).trans h1, rd_on h3 hb⟩
/-- Of what one row grows, another one, of another type, is kept. -/
theorem own_apt {w w2 : World} {b b' n n' sz sz' : Nat} {e e' : TypeId} {v v' : Value} {xs xs' : List Value} (h : w.ownsRow b e sz v n xs) (h' : w.ownsRow b' e' sz' v' n' xs') (hne : e ≠ e') (hg : w.grownBy w2 v'.ownBlock) : w2.ownsRow b e sz v n xs :=
  h.kept hg (by
    rcases h.2 with ⟨e1, _⟩ | ⟨g, cap, cur, e1, _, hg2, _⟩
    · left; rw [e1]; rfl
    · right
      intro e2
      rw [e1] at e2
      exact (Bk.row (t := e) (cs := cur) hg2 h' (Ne.symm hne)) (e2 ▸ rfl))
/-- What has been put out so far: items, and a place for each. -/
structure OutR (w0 w : World) (vo vp : Value) (out : List Ch.Im) (p : Nat) : Prop where
  ro : w.ownsRow w0.heap.size 42 3 vo out.length (imRow out)
  rp : w.ownsRow w0.heap.size 3 1 vp out.length (ins (List.replicate out.length (p : Int)))
  b : Bl w0 w
section
variable {w0 w w1 w2 w3 w4 : World} {vo vp vo' vp' : Value} {out : List Ch.Im} {p : Nat} {y : Ch.Im}
theorem OutR.bl_ (h : OutR w0 w vo vp out p) (hb : Bl w w1) : OutR w0 w1 vo vp out p := ⟨own_bl h.ro hb, own_bl h.rp hb, h.b.trans hb⟩
/-- The item is in, its place not yet. -/
structure OutH (w0 w : World) (vo vp : Value) (out : List Ch.Im) (y : Ch.Im) (p : Nat) : Prop where
  ro : w.ownsRow w0.heap.size 42 3 vo (out.length + 1) (imRow (out ++ [y]))
  rp : w.ownsRow w0.heap.size 3 1 vp out.length (ins (List.replicate out.length (p : Int)))
  b : Bl w0 w
theorem OutR.put (h : OutR w0 w1 vo vp out p) (ho : w2.ownsRow w0.heap.size 42 3 vo' (out.length + 1) (imRow out ++ imc y)) (hg : w1.grownBy w2 vo.ownBlock) : OutH w0 w2 vo' vp out y p :=
  ⟨by rw [imRow_snoc]; exact ho, own_apt h.rp h.ro (by decide) hg, h.b.grown hg fun j hj => (h.ro.lt j hj).1⟩
theorem OutH.bl_ (h : OutH w0 w vo vp out y p) (hb : Bl w w1) : OutH w0 w1 vo vp out y p := ⟨own_bl h.ro hb, own_bl h.rp hb, h.b.trans hb⟩
theorem OutH.put (h : OutH w0 w1 vo vp out y p) (ho : w2.ownsRow w0.heap.size 3 1 vp' (out.length + 1) (ins (List.replicate out.length (p : Int)) ++ [.int .i64 (p : Int)])) (hg : w1.grownBy w2 vp.ownBlock) : OutR w0 w2 vo vp' (out ++ [y]) p := by
  refine ⟨?_, ?_, h.b.grown hg fun j hj => (h.rp.lt j hj).1⟩
  · rw [List.length_append]
    exact own_apt h.ro h.rp (by decide) hg
  · rw [List.length_append, show ([y] : List Ch.Im).length = 1 from rfl, List.replicate_succ', ins_append]
    exact ho
end
/-- What Adds leaves. -/
def AddsP (out : List Ch.Im) (p : Nat) (w : World) (e : Ending) (w' : World) : Prop :=
  ∃ A1 c1 A2 c2, e = .returned (.tuple #[.slice A1 out.length c1, .slice A2 out.length c2]) ∧ Rd w' w'.heap.size A1 (imRow out) ∧ Rd w' w'.heap.size A2 (ins (List.replicate out.length (p : Int))) ∧ Bl w w'
theorem own_n {w : World} {base e sz N c : Nat} {A : Option Addr} {n : Nat} {xs : List Value} (h : w.ownsRow base e sz (.slice A N c) n xs) : N = n := by
  obtain ⟨A1, c1, e1, _⟩ := own_form h
  injection e1
theorem OutR.done {w0 w : World} {A1 A2 : Option Addr} {N c1 c2 : Nat} {out : List Ch.Im} {p : Nat} (h : OutR w0 w (.slice A1 N c1) (.slice A2 N c2) out p) : N = out.length ∧ Rd w w.heap.size A1 (imRow out) ∧ Rd w w.heap.size A2 (ins (List.replicate out.length (p : Int))) ∧ Bl w0 w := by
  have e := own_n h.ro
  have h1 := h.ro
  have h2 := h.rp
  rw [e] at h1 h2
  exact ⟨e, rd_ownN h1, rd_ownN h2, h.b⟩
theorem own_two {w w2 : World} {b n sz : Nat} {e : TypeId} {v v' v'' : Value} {xs : List Value} (h : w.ownsRow b e sz v n xs) (hne : ∀ k, v.ownBlock = some k → v'.ownBlock ≠ some k) (hg : w.grownBy w2 v'.ownBlock)
    (hk : (v''.ownBlock = v'.ownBlock ∧ v'.ownBlock ≠ none) ∨ (w.grownBy w2 none ∧ ∀ k, v''.ownBlock = some k → w.heap.size ≤ k)) : w2.ownsRow b e sz v n xs ∧ ∀ k, v.ownBlock = some k → v''.ownBlock ≠ some k := by
  refine ⟨h.kept hg ?_, fun k h1 h2 => ?_⟩
  · cases hv : v.ownBlock with
    | none => exact .inl rfl
    | some k => exact .inr fun e => hne k hv e.symm
  · rcases hk with ⟨h3, _⟩ | ⟨_, h3⟩
    · exact hne k h1 (h3 ▸ h2)
    · have h4 := h3 k h2
      have h5 := (h.lt k h1).2
      omega
theorem prs_row {w : World} {B bp op : Nat} {ps : List Gr.Pr} (h : Prs w B (some ⟨bp, op, none⟩) ps) {i : Nat} (hi : i < ps.length) : bp < B ∧ ∃ Ax cx, Rd w B Ax (syRow ps[i].right) ∧ w.cell? ⟨bp, op + i * 2, none⟩ = some (.int .i64 ps[i].left) ∧ w.cell? ⟨bp, op + i * 2 + 1, none⟩ = some (.slice Ax ps[i].right.length cx) := by
  obtain ⟨b, off, Ax, cx, e, hb, h1, h2, h3⟩ := h.at_ hi
  injection e with e
  injection e with e1 e2 _
  subst e1 e2
  exact ⟨hb, Ax, cx, h1, h2, h3⟩
theorem lets_len (g : Gr.Gm) (n : Int) (l : List Ch.Im) : (Ch.lets g n l).length ≤ l.length := by
  unfold Ch.lets
  rw [List.length_map]
  exact List.length_filter_le _ _
theorem lets_yes {g : Gr.Gm} {n : Int} {l : List Ch.Im} {k : Nat} (hk : k < l.length) (h : Ch.wants g n l[k] = true) : Ch.lets g n (l.take (k + 1)) = Ch.lets g n (l.take k) ++ [Ch.behind l[k]] := by
  rw [List.take_succ_eq_append_getElem hk, Ch.lets_snoc, if_pos h]
theorem lets_no {g : Gr.Gm} {n : Int} {l : List Ch.Im} {k : Nat} (hk : k < l.length) (h : Ch.wants g n l[k] = false) : Ch.lets g n (l.take (k + 1)) = Ch.lets g n (l.take k) := by
  rw [List.take_succ_eq_append_getElem hk, Ch.lets_snoc, if_neg (by rw [h]; simp), List.append_nil]
theorem begs_take {g : Gr.Gm} {a : Nat} {n : Int} {k : Nat} (hk : k < (Ch.ofN g.prods n).length) : (Ch.begs g a n).take (k + 1) = (Ch.begs g a n).take k ++ [⟨(Ch.ofN g.prods n)[k], 0, a⟩] := by
  unfold Ch.begs
  rw [List.take_succ_eq_append_getElem (by rw [List.length_map]; exact hk), List.getElem_map]
theorem radds_int_info : (Try.prog.info? 3).map (fun i => (i.zero, i.size, i.bytes)) = some (some (.int .i64 0), 1, 8) := by kernel_rfl
theorem sym_info : (Try.prog.info? 37).map (fun i => (i.zero, i.size, i.bytes)) = some (some (.agg #[.bool false, .int .i64 0]), 2, 16) := by kernel_rfl

set_option maxRecDepth 100000 in
set_option maxHeartbeats 16000000 in
theorem radds_any (t n s : Int) (A : Option Addr) (len c : Nat) (ps : List Gr.Pr) (Aw : Option Addr) (lw cw : Nat) (xs : List Int) (tb ofs m mc : Nat) (S : Nat → List Ch.Im) (x : Ch.Im) (a : Nat) (w : World)
    (hlen : len = ps.length) (hl60 : len ≤ 60) (hrl : ∀ i (h : i < ps.length), ps[i].right.length ≤ 1000) (hr : Prs w w.heap.size A ps) (hlw : lw = xs.length) (hmw : lw ≤ 1000) (hrw : Rd w w.heap.size Aw (ins xs)) (hT : TabX w tb ofs m S) (hx : imIn ⟨t, n, s, ps⟩ x) (hxf : x.frm < m)
    (hS : ∀ b, b < m → ∀ y ∈ S b, imIn ⟨t, n, s, ps⟩ y) (hfew : ∀ b, b < m → (S b).length ≤ 13500) (ha : a ≤ 1000) :
    Calls Try.prog 21 #[.agg #[.int .i64 t, .int .i64 n, .int .i64 s, .slice A len c], .slice Aw lw cw, .slice (some ⟨tb, ofs, none⟩) m mc, .agg #[.int .i64 (x.prod : Int), .int .i64 (x.dot : Int), .int .i64 (x.frm : Int)], .int .i64 (a : Int)] w (AddsP (Ch.outI ⟨t, n, s, ps⟩ xs S a x).1 (Ch.outI ⟨t, n, s, ps⟩ xs S a x).2 w) := by
  obtain ⟨i0, hi, hz0, hz1, hz2⟩ := info_parts im_info
  obtain ⟨j0, gi, gz0, gz1, gz2⟩ := info_parts radds_int_info
  obtain ⟨p, hp, hd⟩ := hx
  have hpi : x.prod < ps.length := Ch.lt_of_get hp
  obtain rfl : ps[x.prod] = p := by have h : ps[x.prod]? = some p := hp; rw [List.getElem?_eq_getElem hpi] at h; injection h
  obtain ⟨bp, op, rfl⟩ : ∃ bp op, A = some ⟨bp, op, none⟩ := by
    obtain ⟨b, off, _, _, e, _⟩ := hr.at_ hpi
    exact ⟨b, off, e⟩
  have HW : Hid (∀ wx, Bl w wx → Calls Try.prog 42 #[.agg #[.int .i64 t, .int .i64 n, .int .i64 s, .slice (some ⟨bp, op, none⟩) len c], .agg #[.int .i64 (x.prod : Int), .int .i64 (x.dot : Int), .int .i64 (x.frm : Int)]] wx fun e w' => e = .returned (.bool (decide (x.dot = ps[x.prod].right.length))) ∧ Bl wx w') := fun wx hb =>
    rwhole_any t n s (some ⟨bp, op, none⟩) len c ps x.prod x.dot (x.frm : Int) wx w.heap.size hlen (hr.bl (Nat.le_refl _) hb) hb.size hpi
  have HWy : Hid (∀ (y : Ch.Im) (hy : y.prod < ps.length) wx, Bl w wx → Calls Try.prog 42 #[.agg #[.int .i64 t, .int .i64 n, .int .i64 s, .slice (some ⟨bp, op, none⟩) len c], .agg #[.int .i64 (y.prod : Int), .int .i64 (y.dot : Int), .int .i64 (y.frm : Int)]] wx fun e w' => e = .returned (.bool (decide (y.dot = ps[y.prod].right.length))) ∧ Bl wx w') := fun y hy wx hb =>
    rwhole_any t n s (some ⟨bp, op, none⟩) len c ps y.prod y.dot (y.frm : Int) wx w.heap.size hlen (hr.bl (Nat.le_refl _) hb) hb.size hy
  have HOf : Hid (∀ (non : Int) wx, Bl w wx → Calls Try.prog 19 #[.agg #[.int .i64 t, .int .i64 n, .int .i64 s, .slice (some ⟨bp, op, none⟩) len c], .int .i64 non] wx (IMakes (ns (ofK ps non ps.length)) wx)) := fun non wx hb =>
    roft_any t n s non (some ⟨bp, op, none⟩) len c ps wx w.heap.size hlen (by omega) (hr.bl (Nat.le_refl _) hb) hb.size
  have HR := Lib.hid (fun (wx : World) (hb : Bl w wx) (i : Nat) (hi : i < ps.length) => prs_row (hr.bl (Nat.le_refl _) hb) hi)
  have HRw := Lib.hid (fun (wx : World) (hb : Bl w wx) => hrw.bl (Nat.le_refl _) hb)
  have HT := Lib.hid (fun (wx : World) (hb : Bl w wx) => hT.bl hb)
  have HS := Lib.hid hS
  have HFew := Lib.hid hfew
  have HRl := Lib.hid hrl
  have HLw := Lib.hid hlw
  have HLn := Lib.hid hlen
  have HB1 : Hid (Bl w ((w.alloc (.cells #[.int .i64 t, .int .i64 n, .int .i64 s, .slice (some ⟨bp, op, none⟩) len c] 24)).alloc (.cells #[.int .i64 (x.prod : Int), .int .i64 (x.dot : Int), .int .i64 (x.frm : Int)] 42))) := ((Bl.refl w).alloc _).alloc _
  have HK1 : Hid (Bk ((w.alloc (.cells #[.int .i64 t, .int .i64 n, .int .i64 s, .slice (some ⟨bp, op, none⟩) len c] 24)).alloc (.cells #[.int .i64 (x.prod : Int), .int .i64 (x.dot : Int), .int .i64 (x.frm : Int)] 42)) w.heap.size 24 #[.int .i64 t, .int .i64 n, .int .i64 s, .slice (some ⟨bp, op, none⟩) len c]) := (Bk.new w _ _).alloc _
  have HX1 : Hid (Bk ((w.alloc (.cells #[.int .i64 t, .int .i64 n, .int .i64 s, .slice (some ⟨bp, op, none⟩) len c] 24)).alloc (.cells #[.int .i64 (x.prod : Int), .int .i64 (x.dot : Int), .int .i64 (x.frm : Int)] 42)) (w.heap.size + 1) 42 #[.int .i64 (x.prod : Int), .int .i64 (x.dot : Int), .int .i64 (x.frm : Int)]) := by
    have h := Bk.new (w.alloc (.cells #[.int .i64 t, .int .i64 n, .int .i64 s, .slice (some ⟨bp, op, none⟩) len c] 24)) 42 #[.int .i64 (x.prod : Int), .int .i64 (x.dot : Int), .int .i64 (x.frm : Int)]
    rw [World.size_alloc] at h
    exact h
  have hq9 : decide (x.dot = ps[x.prod].right.length) = (Ch.symAt ⟨t, n, s, ps⟩ x).isNone := by
    have h := Ch.symAt_none (g := ⟨t, n, s, ps⟩) hp hd
    cases e : Ch.symAt ⟨t, n, s, ps⟩ x with
    | none => exact decide_eq_true (h.1 e)
    | some y => exact decide_eq_false fun e2 => by have := h.2 e2; rw [e] at this; cases this
  rw [hq9] at HW
  clear hq9 hr hrw hT hS hfew hlw hlen hrl
  go_enter Try.func21, Try.ntmps21
  go_upto_region 1 with fail
  generalize (w.alloc (.cells #[.int .i64 t, .int .i64 n, .int .i64 s, .slice (some ⟨bp, op, none⟩) len c] 24)).alloc (.cells #[.int .i64 (x.prod : Int), .int .i64 (x.dot : Int), .int .i64 (x.frm : Int)] 42) = w1 at *
  have HO0 : Hid (∀ q : Nat, OutR w1 ((w1.alloc (.cells #[] 42)).alloc (.cells #[] 3)) (.slice (some ⟨w1.heap.size, 0, none⟩) 0 0) (.slice (some ⟨w1.heap.size + 1, 0, none⟩) 0 0) [] q) := fun q =>
    ⟨own_allocI (own_emptyN w1 _ _ _ (Nat.le_refl _)) _, own_emptyM w1 _ _ _ _ (Nat.le_refl _), ((Bl.refl w1).alloc _).alloc _⟩
  have HBe : Hid (Bl w1 ((w1.alloc (.cells #[] 42)).alloc (.cells #[] 3))) := ((Bl.refl w1).alloc _).alloc _
  go_upto_region 3 with fail
  generalize (w1.alloc (.cells #[] 42)).alloc (.cells #[] 3) = w2 at *
  have HK2 := Lib.hid (HK1.out.bl HBe.out)
  have HX2 := Lib.hid (HX1.out.bl HBe.out)
  have HBw2 := Lib.hid (HB1.out.trans HBe.out)
  clear HBe
  generalize hg1 : w1.heap.size = e1 at *
  clear hg1
  have k0 : w2.cell? ⟨w.heap.size, 0, none⟩ = some (.int .i64 t) := HK2.out.cell 0
  have k1 : w2.cell? ⟨w.heap.size, 1, none⟩ = some (.int .i64 n) := HK2.out.cell 1
  have k2 : w2.cell? ⟨w.heap.size, 2, none⟩ = some (.int .i64 s) := HK2.out.cell 2
  have k3 : w2.cell? ⟨w.heap.size, 3, none⟩ = some (.slice (some ⟨bp, op, none⟩) len c) := HK2.out.cell 3
  have x0 : w2.cell? ⟨w.heap.size + 1, 0, none⟩ = some (.int .i64 (x.prod : Int)) := HX2.out.cell 0
  have x1 : w2.cell? ⟨w.heap.size + 1, 1, none⟩ = some (.int .i64 (x.dot : Int)) := HX2.out.cell 1
  have x2 : w2.cell? ⟨w.heap.size + 1, 2, none⟩ = some (.int .i64 (x.frm : Int)) := HX2.out.cell 2
  have kl := HK2.out.lt
  have xl := HX2.out.lt
  go_wp2_with fail
  refine (HW.out w2 HBw2.out).mono ?_
  rintro e w3 ⟨rfl, hb3⟩
  have HBw3 := Lib.hid (HBw2.out.trans hb3)
  have HO3 := Lib.hid (fun q => (HO0.out q).bl_ hb3)
  clear hb3 k0 k1 k2 k3 x0 x1 x2 kl xl HK2 HX2 HBw2 HO0 HW
  obtain ⟨hbp, Ax, cx, hrx, hl0, hc0⟩ := HR.out w1 HB1.out x.prod hpi
  have HRx := Lib.hid hrx
  have HL0 := Lib.hid (fun (wx : World) (hb : Bl w1 wx) => (Below.cell hb (p := ⟨bp, op + x.prod * 2, none⟩) (Nat.lt_of_lt_of_le hbp HB1.out.size)).trans hl0)
  have HC0 := Lib.hid (fun (wx : World) (hb : Bl w1 wx) => (Below.cell hb (p := ⟨bp, op + x.prod * 2 + 1, none⟩) (Nat.lt_of_lt_of_le hbp HB1.out.size)).trans hc0)
  clear hrx hl0 hc0 hbp
  have HOut : Hid (Ch.outI ⟨t, n, s, ps⟩ xs S a x = match Ch.symAt ⟨t, n, s, ps⟩ x with
      | none => (Ch.lets ⟨t, n, s, ps⟩ (Ch.leftOf ⟨t, n, s, ps⟩ x) (S x.frm), a)
      | some s' => if s'.non then (Ch.begs ⟨t, n, s, ps⟩ a s'.n, a) else if xs[a]? = some s'.n then ([Ch.behind x], a + 1) else ([], a)) := rfl
  have HLeft : Hid (Ch.leftOf ⟨t, n, s, ps⟩ x = ps[x.prod].left) := Ch.leftOf_eq hp
  have i1 : (0 : Int) ≤ (x.prod : Int) := by omega
  have i2 : (x.prod : Int) < (len : Int) := by have := HLn.out; omega
  cases hs : Ch.symAt ⟨t, n, s, ps⟩ x with
  | none =>
    have HOu : Hid (Ch.outI ⟨t, n, s, ps⟩ xs S a x = (Ch.lets ⟨t, n, s, ps⟩ ps[x.prod].left (S x.frm), a)) := by show _ = _; rw [HOut.out, hs, HLeft.out]
    clear hs HOut HLeft HRx HC0
    have hx0 : (0 : Int) ≤ (x.frm : Int) := by omega
    have hxm : (x.frm : Int) < (m : Int) := by omega
    have hL : (S x.frm).length ≤ 13500 := HFew.out _ hxf
    have HSy := Lib.hid (HS.out _ hxf)
    generalize ps[x.prod].left = nx at *
    have HCl : Hid (∀ wx, Bl w1 wx → ∃ Ai ci, wx.cell? ⟨tb, ofs + x.frm, none⟩ = some (.slice Ai (S x.frm).length ci) ∧ Rd wx wx.heap.size Ai (imRow (S x.frm))) := fun wx hb => by
      obtain ⟨Ai, ci, h1, h3⟩ := (HT.out wx (HB1.out.trans hb)).2 _ hxf
      exact ⟨Ai, ci, h1, h3⟩
    generalize S x.frm = l at *
    generalize hll : l.length = L at *
    have HLl := Lib.hid hll
    clear hll HS HFew
    go_wp2_with fail
    go_loopw [12, 13, 14] (fun vo vp i wr => ∃ (k N c1 c2 : Nat) (A1 A2 : Option Addr), k ≤ L ∧ N ≤ k ∧ vo = .slice A1 N c1 ∧ vp = .slice A2 N c2 ∧ i = .int .i64 (k : Int) ∧ Hid (OutR w1 wr (.slice A1 N c1) (.slice A2 N c2) (Ch.lets ⟨t, n, s, ps⟩ nx (l.take k)) a)) (fun _ _ i _ => L - (intOf i).toNat)
    case atStart => exact ⟨0, 0, 0, 0, _, _, Nat.zero_le _, Nat.zero_le _, rfl, rfl, rfl, HO3.out a⟩
    case round =>
      obtain ⟨k, N, c1, c2, A1, A2, hk, hNk, rfl, rfl, rfl, HO⟩ := hrel
      have HB := Lib.hid HO.out.b
      have HKr := Lib.hid (HK1.out.bl HB.out)
      have HXr := Lib.hid (HX1.out.bl HB.out)
      have x2 : wr.cell? ⟨w.heap.size + 1, 2, none⟩ = some (.int .i64 (x.frm : Int)) := HXr.out.cell 2
      have xl := HXr.out.lt
      obtain ⟨Ai, ci, ht, hri⟩ := HCl.out wr HB.out
      by_cases hlt : k < L
      · have hlt2 : k < l.length := by have := HLl.out; omega
        have hik : (k : Int) < (L : Int) := by omega
        have hk0 : (0 : Int) ≤ (k : Int) := by omega
        obtain ⟨bi, oi, rfl, hbi, z0, z1, z2⟩ := hri.item hlt2
        obtain ⟨pY, hpY, hdY⟩ := HSy.out l[k] (List.getElem_mem hlt2)
        have HYes := Lib.hid (lets_yes (g := ⟨t, n, s, ps⟩) (n := nx) hlt2)
        have HNo := Lib.hid (lets_no (g := ⟨t, n, s, ps⟩) (n := nx) hlt2)
        generalize l[k] = y at *
        clear hlt2
        have hyi : y.prod < ps.length := Ch.lt_of_get hpY
        obtain rfl : ps[y.prod] = pY := by have h : ps[y.prod]? = some pY := hpY; rw [List.getElem?_eq_getElem hyi] at h; injection h
        have HY9 := Lib.hid (Bk.new wr 42 #[.int .i64 (y.prod : Int), .int .i64 (y.dot : Int), .int .i64 (y.frm : Int)])
        have HB9 : Hid (Bl wr (wr.alloc (.cells #[.int .i64 (y.prod : Int), .int .i64 (y.dot : Int), .int .i64 (y.frm : Int)] 42))) := (Bl.refl wr).alloc _
        go_upto_region 8 with fail
        generalize wr.alloc (.cells #[.int .i64 (y.prod : Int), .int .i64 (y.dot : Int), .int .i64 (y.frm : Int)] 42) = w4 at *
        generalize wr.heap.size = yb at *
        have HB4 := Lib.hid (HB.out.trans HB9.out)
        have HBw4 := Lib.hid (HB1.out.trans HB4.out)
        have HK4 := Lib.hid (HKr.out.bl HB9.out)
        have HX4 := Lib.hid (HXr.out.bl HB9.out)
        obtain ⟨hbp, Ay, cy, hry, hly, hcy⟩ := HR.out w4 HBw4.out y.prod hyi
        have hbp4 : bp < w4.heap.size := Nat.lt_of_lt_of_le hbp HBw4.out.size
        have i3 : (0 : Int) ≤ (y.prod : Int) := by omega
        have i4 : (y.prod : Int) < (len : Int) := by have := HLn.out; omega
        have HWq := Lib.hid (fun (wx : World) (hb : Bl w4 wx) => HWy.out y hyi wx (HBw4.out.trans hb))
        have hdy9 : y.dot ≤ 1000 := Nat.le_trans hdY (HRl.out _ hyi)
        have hwn := fun h => (Ch.symAt_none (g := ⟨t, n, s, ps⟩) hpY hdY).2 h
        have hws := fun (sy : Gr.Sy) (h : ps[y.prod].right[y.dot]? = some sy) => (Ch.symAt_iff (g := ⟨t, n, s, ps⟩) (x := y) (s := sy)).2 ⟨_, hpY, h⟩
        have HBd : Hid (Bl w4 w4.drew) := (Bl.refl w4).drew
        go_cut [81] from 42 to 81 (fun v wx => v = .bool (Ch.wants ⟨t, n, s, ps⟩ nx y) ∧ Hid (Bl w4 wx))
        case first =>
          have hpos : y.dot ≤ ps[y.prod].right.length := hdY
          generalize ps[y.prod].right = ry at *
          generalize hrn : ry.length = rn at *
          have HRn := Lib.hid hrn
          clear hrn
          by_cases he : y.dot = rn
          · have HWt : Hid (Ch.wants ⟨t, n, s, ps⟩ nx y = false) := by
              show _ = _
              unfold Ch.wants
              rw [hwn he]
            have HC4 : Hid (∀ wx, Bl w4 wx → wx.cell? ⟨w.heap.size, 0, none⟩ = some (.int .i64 t) ∧ wx.cell? ⟨w.heap.size, 1, none⟩ = some (.int .i64 n) ∧ wx.cell? ⟨w.heap.size, 2, none⟩ = some (.int .i64 s) ∧ wx.cell? ⟨w.heap.size, 3, none⟩ = some (.slice (some ⟨bp, op, none⟩) len c) ∧ wx.cell? ⟨yb, 0, none⟩ = some (.int .i64 (y.prod : Int)) ∧ wx.cell? ⟨yb, 1, none⟩ = some (.int .i64 (y.dot : Int)) ∧ wx.cell? ⟨yb, 2, none⟩ = some (.int .i64 (y.frm : Int))) := fun wx hb => by
              have h1 := HK4.out.bl hb
              have h2 := HY9.out.bl hb
              exact ⟨h1.cell 0, h1.cell 1, h1.cell 2, h1.cell 3, h2.cell 0, h2.cell 1, h2.cell 2⟩
            rw [decide_eq_true he] at HWq
            clear hwn hws hpos hdY he hry hly hcy
            refine wp_region_held_drew (S := (fun wx => wx.cell? ⟨w.heap.size, 0, none⟩ = some (.int .i64 t) ∧ wx.cell? ⟨w.heap.size, 1, none⟩ = some (.int .i64 n) ∧ wx.cell? ⟨w.heap.size, 2, none⟩ = some (.int .i64 s) ∧ wx.cell? ⟨w.heap.size, 3, none⟩ = some (.slice (some ⟨bp, op, none⟩) len c) ∧ wx.cell? ⟨yb, 0, none⟩ = some (.int .i64 (y.prod : Int)) ∧ wx.cell? ⟨yb, 1, none⟩ = some (.int .i64 (y.dot : Int)) ∧ wx.cell? ⟨yb, 2, none⟩ = some (.int .i64 (y.frm : Int)))) (by kernel_rfl) (HC4.out _ HBd.out) (fun hHeld => ?_)
            refine wpAnyH_take (i := 0) (oi := ({ dst := some 42, op := Op.load 24 (Operand.tmp 5), type := 24, pos := "ref.go:43", after := #[], guard := none } : Oper)) (v := ?_) rfl (by kernel_rfl) (by kernel_rfl) (by kernel_rfl) (fun _ _ _ h => h) (Or.inl ⟨by rfl, ?_⟩) hHeld ?_
            rotate_left
            · (intro w hSw; (try dsimp only at hSw); go_simp) <;> with_reducible rfl
            try simp only [Act.put, List.setIfInBounds_toArray, List.set_cons_zero, List.set_cons_succ]
            refine wpAnyH_take (i := 1) (oi := ({ dst := some 43, op := Op.load 42 (Operand.tmp 15), type := 42, pos := "ref.go:43", after := #[], guard := none } : Oper)) (v := ?_) rfl (by kernel_rfl) (by kernel_rfl) (by kernel_rfl) (fun _ _ _ h => h) (Or.inl ⟨by rfl, ?_⟩) hHeld ?_
            rotate_left
            · (intro w hSw; (try dsimp only at hSw); go_simp) <;> with_reducible rfl
            try simp only [Act.put, List.setIfInBounds_toArray, List.set_cons_zero, List.set_cons_succ]
            refine wpAnyH_ready (rs := [2]) (by kernel_rfl) (by simp) ?_
            refine AllReadyH.cons (o := ({ dst := some 44, op := Op.call { callee := Callee.value (Operand.func 42), args := #[Operand.tmp 42, Operand.tmp 43], argTypes := #[24, 42] }, type := 4, pos := "ref.go:43", after := #[{ on := 0, ground := Ground.data }, { on := 1, ground := Ground.data }], guard := none } : Oper)) rfl (fun K hK => ?_) (AllReadyH.nil)
            go_simp
            ((with_reducible refine (HWq.out _ HBd.out).mono ?_); rintro e w5 ⟨rfl, hb5⟩)
            have HB5 : Hid (Bl w4 w5) := Bl.undrew hb5
            clear hb5
            go_wp2_with fail
            refine hK.out _ _ (HC4.out _ HB5.out) (fun hHeld => ?_)
            clear hK K
            try simp only [Act.put, List.setIfInBounds_toArray, List.set_cons_zero, List.set_cons_succ]
            refine wpAnyH_take (i := 3) (oi := ({ dst := some 45, op := Op.unOp UnOp.not 4 (Operand.tmp 44), type := 4, pos := "ref.go:43", after := #[{ on := 2, ground := Ground.data }], guard := none } : Oper)) (v := ?_) rfl (by kernel_rfl) (by kernel_rfl) (by kernel_rfl) (fun _ _ _ h => h) (Or.inl ⟨by rfl, ?_⟩) hHeld ?_
            rotate_left
            · (intro w hSw; (try dsimp only at hSw); go_simp) <;> with_reducible rfl
            try simp only [Act.put, List.setIfInBounds_toArray, List.set_cons_zero, List.set_cons_succ]
            refine wpAnyH_take (i := 4) (oi := ({ dst := some 46, op := Op.move (Operand.tmp 45), type := 4, pos := "ref.go:43", after := #[{ on := 3, ground := Ground.data }, { on := 2, ground := Ground.chain }], guard := none } : Oper)) (v := ?_) rfl (by kernel_rfl) (by kernel_rfl) (by kernel_rfl) (fun _ _ _ h => h) (Or.inl ⟨by rfl, ?_⟩) hHeld ?_
            rotate_left
            · (intro w hSw; (try dsimp only at hSw); go_simp) <;> with_reducible rfl
            try simp only [Act.put, List.setIfInBounds_toArray, List.set_cons_zero, List.set_cons_succ]
            refine wpAnyH_take (i := 5) (oi := ({ dst := some 47, op := Op.fieldAddr 24 (Operand.tmp 5) 3, type := 0, pos := "ref.go:43", after := #[{ on := 4, ground := Ground.guard }], guard := some (4, true) } : Oper)) (v := undef) rfl (by kernel_rfl) (by kernel_rfl) (by kernel_rfl) (fun _ _ _ h => h) (Or.inr ⟨by rfl, rfl⟩) hHeld ?_
            try simp only [Act.put, List.setIfInBounds_toArray, List.set_cons_zero, List.set_cons_succ]
            refine wpAnyH_take (i := 6) (oi := ({ dst := some 48, op := Op.load 22 (Operand.tmp 47), type := 22, pos := "ref.go:43", after := #[{ on := 5, ground := Ground.data }, { on := 4, ground := Ground.guard }], guard := some (4, true) } : Oper)) (v := undef) rfl (by kernel_rfl) (by kernel_rfl) (by kernel_rfl) (fun _ _ _ h => h) (Or.inr ⟨by rfl, rfl⟩) hHeld ?_
            try simp only [Act.put, List.setIfInBounds_toArray, List.set_cons_zero, List.set_cons_succ]
            refine wpAnyH_take (i := 7) (oi := ({ dst := some 49, op := Op.fieldAddr 42 (Operand.tmp 15) 0, type := 0, pos := "ref.go:43", after := #[{ on := 4, ground := Ground.guard }], guard := some (4, true) } : Oper)) (v := undef) rfl (by kernel_rfl) (by kernel_rfl) (by kernel_rfl) (fun _ _ _ h => h) (Or.inr ⟨by rfl, rfl⟩) hHeld ?_
            try simp only [Act.put, List.setIfInBounds_toArray, List.set_cons_zero, List.set_cons_succ]
            refine wpAnyH_take (i := 8) (oi := ({ dst := some 50, op := Op.load 3 (Operand.tmp 49), type := 3, pos := "ref.go:43", after := #[{ on := 7, ground := Ground.data }, { on := 4, ground := Ground.guard }], guard := some (4, true) } : Oper)) (v := undef) rfl (by kernel_rfl) (by kernel_rfl) (by kernel_rfl) (fun _ _ _ h => h) (Or.inr ⟨by rfl, rfl⟩) hHeld ?_
            try simp only [Act.put, List.setIfInBounds_toArray, List.set_cons_zero, List.set_cons_succ]
            refine wpAnyH_take (i := 9) (oi := ({ dst := some 51, op := Op.indexAddr 22 (Operand.tmp 48) (Operand.tmp 50), type := 0, pos := "ref.go:43", after := #[{ on := 6, ground := Ground.data }, { on := 8, ground := Ground.data }, { on := 4, ground := Ground.guard }], guard := some (4, true) } : Oper)) (v := undef) rfl (by kernel_rfl) (by kernel_rfl) (by kernel_rfl) (fun _ _ _ h => h) (Or.inr ⟨by rfl, rfl⟩) hHeld ?_
            try simp only [Act.put, List.setIfInBounds_toArray, List.set_cons_zero, List.set_cons_succ]
            refine wpAnyH_take (i := 10) (oi := ({ dst := some 52, op := Op.fieldAddr 40 (Operand.tmp 51) 1, type := 0, pos := "ref.go:43", after := #[{ on := 9, ground := Ground.data }, { on := 4, ground := Ground.guard }], guard := some (4, true) } : Oper)) (v := undef) rfl (by kernel_rfl) (by kernel_rfl) (by kernel_rfl) (fun _ _ _ h => h) (Or.inr ⟨by rfl, rfl⟩) hHeld ?_
            try simp only [Act.put, List.setIfInBounds_toArray, List.set_cons_zero, List.set_cons_succ]
            refine wpAnyH_take (i := 11) (oi := ({ dst := some 53, op := Op.load 38 (Operand.tmp 52), type := 38, pos := "ref.go:43", after := #[{ on := 10, ground := Ground.data }, { on := 4, ground := Ground.guard }], guard := some (4, true) } : Oper)) (v := undef) rfl (by kernel_rfl) (by kernel_rfl) (by kernel_rfl) (fun _ _ _ h => h) (Or.inr ⟨by rfl, rfl⟩) hHeld ?_
            try simp only [Act.put, List.setIfInBounds_toArray, List.set_cons_zero, List.set_cons_succ]
            refine wpAnyH_take (i := 12) (oi := ({ dst := some 54, op := Op.fieldAddr 42 (Operand.tmp 15) 1, type := 0, pos := "ref.go:43", after := #[{ on := 4, ground := Ground.guard }], guard := some (4, true) } : Oper)) (v := undef) rfl (by kernel_rfl) (by kernel_rfl) (by kernel_rfl) (fun _ _ _ h => h) (Or.inr ⟨by rfl, rfl⟩) hHeld ?_
            try simp only [Act.put, List.setIfInBounds_toArray, List.set_cons_zero, List.set_cons_succ]
            refine wpAnyH_take (i := 13) (oi := ({ dst := some 55, op := Op.load 3 (Operand.tmp 54), type := 3, pos := "ref.go:43", after := #[{ on := 12, ground := Ground.data }, { on := 4, ground := Ground.guard }], guard := some (4, true) } : Oper)) (v := undef) rfl (by kernel_rfl) (by kernel_rfl) (by kernel_rfl) (fun _ _ _ h => h) (Or.inr ⟨by rfl, rfl⟩) hHeld ?_
            try simp only [Act.put, List.setIfInBounds_toArray, List.set_cons_zero, List.set_cons_succ]
            refine wpAnyH_take (i := 14) (oi := ({ dst := some 56, op := Op.indexAddr 38 (Operand.tmp 53) (Operand.tmp 55), type := 0, pos := "ref.go:43", after := #[{ on := 11, ground := Ground.data }, { on := 13, ground := Ground.data }, { on := 4, ground := Ground.guard }], guard := some (4, true) } : Oper)) (v := undef) rfl (by kernel_rfl) (by kernel_rfl) (by kernel_rfl) (fun _ _ _ h => h) (Or.inr ⟨by rfl, rfl⟩) hHeld ?_
            try simp only [Act.put, List.setIfInBounds_toArray, List.set_cons_zero, List.set_cons_succ]
            refine wpAnyH_take (i := 15) (oi := ({ dst := some 57, op := Op.fieldAddr 37 (Operand.tmp 56) 0, type := 0, pos := "ref.go:43", after := #[{ on := 14, ground := Ground.data }, { on := 4, ground := Ground.guard }], guard := some (4, true) } : Oper)) (v := undef) rfl (by kernel_rfl) (by kernel_rfl) (by kernel_rfl) (fun _ _ _ h => h) (Or.inr ⟨by rfl, rfl⟩) hHeld ?_
            try simp only [Act.put, List.setIfInBounds_toArray, List.set_cons_zero, List.set_cons_succ]
            refine wpAnyH_take (i := 16) (oi := ({ dst := some 58, op := Op.load 4 (Operand.tmp 57), type := 4, pos := "ref.go:43", after := #[{ on := 15, ground := Ground.data }, { on := 4, ground := Ground.guard }], guard := some (4, true) } : Oper)) (v := undef) rfl (by kernel_rfl) (by kernel_rfl) (by kernel_rfl) (fun _ _ _ h => h) (Or.inr ⟨by rfl, rfl⟩) hHeld ?_
            try simp only [Act.put, List.setIfInBounds_toArray, List.set_cons_zero, List.set_cons_succ]
            refine wpAnyH_take (i := 17) (oi := ({ dst := some 59, op := Op.pick (Operand.tmp 46) (Operand.tmp 58) (Operand.const (Value.bool false)), type := 4, pos := "ref.go:43", after := #[{ on := 4, ground := Ground.data }, { on := 16, ground := Ground.data }], guard := none } : Oper)) (v := ?_) rfl (by kernel_rfl) (by kernel_rfl) (by kernel_rfl) (fun _ _ _ h => h) (Or.inl ⟨by rfl, ?_⟩) hHeld ?_
            rotate_left
            · (intro w hSw; (try dsimp only at hSw); go_simp) <;> with_reducible rfl
            try simp only [Act.put, List.setIfInBounds_toArray, List.set_cons_zero, List.set_cons_succ]
            refine wpAnyH_take (i := 18) (oi := ({ dst := some 60, op := Op.move (Operand.tmp 59), type := 4, pos := "ref.go:43", after := #[{ on := 17, ground := Ground.data }, { on := 4, ground := Ground.chain }], guard := none } : Oper)) (v := ?_) rfl (by kernel_rfl) (by kernel_rfl) (by kernel_rfl) (fun _ _ _ h => h) (Or.inl ⟨by rfl, ?_⟩) hHeld ?_
            rotate_left
            · (intro w hSw; (try dsimp only at hSw); go_simp) <;> with_reducible rfl
            try simp only [Act.put, List.setIfInBounds_toArray, List.set_cons_zero, List.set_cons_succ]
            refine wpAnyH_take (i := 19) (oi := ({ dst := some 61, op := Op.fieldAddr 24 (Operand.tmp 5) 3, type := 0, pos := "ref.go:43", after := #[{ on := 18, ground := Ground.guard }], guard := some (18, true) } : Oper)) (v := undef) rfl (by kernel_rfl) (by kernel_rfl) (by kernel_rfl) (fun _ _ _ h => h) (Or.inr ⟨by rfl, rfl⟩) hHeld ?_
            try simp only [Act.put, List.setIfInBounds_toArray, List.set_cons_zero, List.set_cons_succ]
            refine wpAnyH_take (i := 20) (oi := ({ dst := some 62, op := Op.load 22 (Operand.tmp 61), type := 22, pos := "ref.go:43", after := #[{ on := 19, ground := Ground.data }, { on := 18, ground := Ground.guard }], guard := some (18, true) } : Oper)) (v := undef) rfl (by kernel_rfl) (by kernel_rfl) (by kernel_rfl) (fun _ _ _ h => h) (Or.inr ⟨by rfl, rfl⟩) hHeld ?_
            try simp only [Act.put, List.setIfInBounds_toArray, List.set_cons_zero, List.set_cons_succ]
            refine wpAnyH_take (i := 21) (oi := ({ dst := some 63, op := Op.fieldAddr 42 (Operand.tmp 15) 0, type := 0, pos := "ref.go:43", after := #[{ on := 18, ground := Ground.guard }], guard := some (18, true) } : Oper)) (v := undef) rfl (by kernel_rfl) (by kernel_rfl) (by kernel_rfl) (fun _ _ _ h => h) (Or.inr ⟨by rfl, rfl⟩) hHeld ?_
            try simp only [Act.put, List.setIfInBounds_toArray, List.set_cons_zero, List.set_cons_succ]
            refine wpAnyH_take (i := 22) (oi := ({ dst := some 64, op := Op.load 3 (Operand.tmp 63), type := 3, pos := "ref.go:43", after := #[{ on := 21, ground := Ground.data }, { on := 18, ground := Ground.guard }], guard := some (18, true) } : Oper)) (v := undef) rfl (by kernel_rfl) (by kernel_rfl) (by kernel_rfl) (fun _ _ _ h => h) (Or.inr ⟨by rfl, rfl⟩) hHeld ?_
            try simp only [Act.put, List.setIfInBounds_toArray, List.set_cons_zero, List.set_cons_succ]
            refine wpAnyH_take (i := 23) (oi := ({ dst := some 65, op := Op.indexAddr 22 (Operand.tmp 62) (Operand.tmp 64), type := 0, pos := "ref.go:43", after := #[{ on := 20, ground := Ground.data }, { on := 22, ground := Ground.data }, { on := 18, ground := Ground.guard }], guard := some (18, true) } : Oper)) (v := undef) rfl (by kernel_rfl) (by kernel_rfl) (by kernel_rfl) (fun _ _ _ h => h) (Or.inr ⟨by rfl, rfl⟩) hHeld ?_
            try simp only [Act.put, List.setIfInBounds_toArray, List.set_cons_zero, List.set_cons_succ]
            refine wpAnyH_take (i := 24) (oi := ({ dst := some 66, op := Op.fieldAddr 40 (Operand.tmp 65) 1, type := 0, pos := "ref.go:43", after := #[{ on := 23, ground := Ground.data }, { on := 18, ground := Ground.guard }], guard := some (18, true) } : Oper)) (v := undef) rfl (by kernel_rfl) (by kernel_rfl) (by kernel_rfl) (fun _ _ _ h => h) (Or.inr ⟨by rfl, rfl⟩) hHeld ?_
            try simp only [Act.put, List.setIfInBounds_toArray, List.set_cons_zero, List.set_cons_succ]
            refine wpAnyH_take (i := 25) (oi := ({ dst := some 67, op := Op.load 38 (Operand.tmp 66), type := 38, pos := "ref.go:43", after := #[{ on := 24, ground := Ground.data }, { on := 18, ground := Ground.guard }], guard := some (18, true) } : Oper)) (v := undef) rfl (by kernel_rfl) (by kernel_rfl) (by kernel_rfl) (fun _ _ _ h => h) (Or.inr ⟨by rfl, rfl⟩) hHeld ?_
            try simp only [Act.put, List.setIfInBounds_toArray, List.set_cons_zero, List.set_cons_succ]
            refine wpAnyH_take (i := 26) (oi := ({ dst := some 68, op := Op.fieldAddr 42 (Operand.tmp 15) 1, type := 0, pos := "ref.go:43", after := #[{ on := 18, ground := Ground.guard }], guard := some (18, true) } : Oper)) (v := undef) rfl (by kernel_rfl) (by kernel_rfl) (by kernel_rfl) (fun _ _ _ h => h) (Or.inr ⟨by rfl, rfl⟩) hHeld ?_
            try simp only [Act.put, List.setIfInBounds_toArray, List.set_cons_zero, List.set_cons_succ]
            refine wpAnyH_take (i := 27) (oi := ({ dst := some 69, op := Op.load 3 (Operand.tmp 68), type := 3, pos := "ref.go:43", after := #[{ on := 26, ground := Ground.data }, { on := 18, ground := Ground.guard }], guard := some (18, true) } : Oper)) (v := undef) rfl (by kernel_rfl) (by kernel_rfl) (by kernel_rfl) (fun _ _ _ h => h) (Or.inr ⟨by rfl, rfl⟩) hHeld ?_
            try simp only [Act.put, List.setIfInBounds_toArray, List.set_cons_zero, List.set_cons_succ]
            refine wpAnyH_take (i := 28) (oi := ({ dst := some 70, op := Op.indexAddr 38 (Operand.tmp 67) (Operand.tmp 69), type := 0, pos := "ref.go:43", after := #[{ on := 25, ground := Ground.data }, { on := 27, ground := Ground.data }, { on := 18, ground := Ground.guard }], guard := some (18, true) } : Oper)) (v := undef) rfl (by kernel_rfl) (by kernel_rfl) (by kernel_rfl) (fun _ _ _ h => h) (Or.inr ⟨by rfl, rfl⟩) hHeld ?_
            try simp only [Act.put, List.setIfInBounds_toArray, List.set_cons_zero, List.set_cons_succ]
            refine wpAnyH_take (i := 29) (oi := ({ dst := some 71, op := Op.fieldAddr 37 (Operand.tmp 70) 1, type := 0, pos := "ref.go:43", after := #[{ on := 28, ground := Ground.data }, { on := 18, ground := Ground.guard }], guard := some (18, true) } : Oper)) (v := undef) rfl (by kernel_rfl) (by kernel_rfl) (by kernel_rfl) (fun _ _ _ h => h) (Or.inr ⟨by rfl, rfl⟩) hHeld ?_
            try simp only [Act.put, List.setIfInBounds_toArray, List.set_cons_zero, List.set_cons_succ]
            refine wpAnyH_take (i := 30) (oi := ({ dst := some 72, op := Op.load 3 (Operand.tmp 71), type := 3, pos := "ref.go:43", after := #[{ on := 29, ground := Ground.data }, { on := 18, ground := Ground.guard }], guard := some (18, true) } : Oper)) (v := undef) rfl (by kernel_rfl) (by kernel_rfl) (by kernel_rfl) (fun _ _ _ h => h) (Or.inr ⟨by rfl, rfl⟩) hHeld ?_
            try simp only [Act.put, List.setIfInBounds_toArray, List.set_cons_zero, List.set_cons_succ]
            refine wpAnyH_take (i := 31) (oi := ({ dst := some 73, op := Op.fieldAddr 24 (Operand.tmp 5) 3, type := 0, pos := "ref.go:43", after := #[{ on := 18, ground := Ground.guard }], guard := some (18, true) } : Oper)) (v := undef) rfl (by kernel_rfl) (by kernel_rfl) (by kernel_rfl) (fun _ _ _ h => h) (Or.inr ⟨by rfl, rfl⟩) hHeld ?_
            try simp only [Act.put, List.setIfInBounds_toArray, List.set_cons_zero, List.set_cons_succ]
            refine wpAnyH_take (i := 32) (oi := ({ dst := some 74, op := Op.load 22 (Operand.tmp 73), type := 22, pos := "ref.go:43", after := #[{ on := 31, ground := Ground.data }, { on := 18, ground := Ground.guard }], guard := some (18, true) } : Oper)) (v := undef) rfl (by kernel_rfl) (by kernel_rfl) (by kernel_rfl) (fun _ _ _ h => h) (Or.inr ⟨by rfl, rfl⟩) hHeld ?_
            try simp only [Act.put, List.setIfInBounds_toArray, List.set_cons_zero, List.set_cons_succ]
            refine wpAnyH_take (i := 33) (oi := ({ dst := some 75, op := Op.fieldAddr 42 (Operand.tmp 8) 0, type := 0, pos := "ref.go:43", after := #[{ on := 18, ground := Ground.guard }], guard := some (18, true) } : Oper)) (v := undef) rfl (by kernel_rfl) (by kernel_rfl) (by kernel_rfl) (fun _ _ _ h => h) (Or.inr ⟨by rfl, rfl⟩) hHeld ?_
            try simp only [Act.put, List.setIfInBounds_toArray, List.set_cons_zero, List.set_cons_succ]
            refine wpAnyH_take (i := 34) (oi := ({ dst := some 76, op := Op.load 3 (Operand.tmp 75), type := 3, pos := "ref.go:43", after := #[{ on := 33, ground := Ground.data }, { on := 18, ground := Ground.guard }], guard := some (18, true) } : Oper)) (v := undef) rfl (by kernel_rfl) (by kernel_rfl) (by kernel_rfl) (fun _ _ _ h => h) (Or.inr ⟨by rfl, rfl⟩) hHeld ?_
            try simp only [Act.put, List.setIfInBounds_toArray, List.set_cons_zero, List.set_cons_succ]
            refine wpAnyH_take (i := 35) (oi := ({ dst := some 77, op := Op.indexAddr 22 (Operand.tmp 74) (Operand.tmp 76), type := 0, pos := "ref.go:43", after := #[{ on := 32, ground := Ground.data }, { on := 34, ground := Ground.data }, { on := 18, ground := Ground.guard }], guard := some (18, true) } : Oper)) (v := undef) rfl (by kernel_rfl) (by kernel_rfl) (by kernel_rfl) (fun _ _ _ h => h) (Or.inr ⟨by rfl, rfl⟩) hHeld ?_
            try simp only [Act.put, List.setIfInBounds_toArray, List.set_cons_zero, List.set_cons_succ]
            refine wpAnyH_take (i := 36) (oi := ({ dst := some 78, op := Op.fieldAddr 40 (Operand.tmp 77) 0, type := 0, pos := "ref.go:43", after := #[{ on := 35, ground := Ground.data }, { on := 18, ground := Ground.guard }], guard := some (18, true) } : Oper)) (v := undef) rfl (by kernel_rfl) (by kernel_rfl) (by kernel_rfl) (fun _ _ _ h => h) (Or.inr ⟨by rfl, rfl⟩) hHeld ?_
            try simp only [Act.put, List.setIfInBounds_toArray, List.set_cons_zero, List.set_cons_succ]
            refine wpAnyH_take (i := 37) (oi := ({ dst := some 79, op := Op.load 3 (Operand.tmp 78), type := 3, pos := "ref.go:43", after := #[{ on := 36, ground := Ground.data }, { on := 18, ground := Ground.guard }], guard := some (18, true) } : Oper)) (v := undef) rfl (by kernel_rfl) (by kernel_rfl) (by kernel_rfl) (fun _ _ _ h => h) (Or.inr ⟨by rfl, rfl⟩) hHeld ?_
            try simp only [Act.put, List.setIfInBounds_toArray, List.set_cons_zero, List.set_cons_succ]
            refine wpAnyH_take (i := 38) (oi := ({ dst := some 80, op := Op.binOp BinOp.eql 3 (Operand.tmp 72) (Operand.tmp 79) 3, type := 4, pos := "ref.go:43", after := #[{ on := 30, ground := Ground.data }, { on := 37, ground := Ground.data }, { on := 18, ground := Ground.guard }], guard := some (18, true) } : Oper)) (v := undef) rfl (by kernel_rfl) (by kernel_rfl) (by kernel_rfl) (fun _ _ _ h => h) (Or.inr ⟨by rfl, rfl⟩) hHeld ?_
            try simp only [Act.put, List.setIfInBounds_toArray, List.set_cons_zero, List.set_cons_succ]
            refine wpAnyH_take (i := 39) (oi := ({ dst := some 81, op := Op.pick (Operand.tmp 60) (Operand.tmp 80) (Operand.const (Value.bool false)), type := 4, pos := "ref.go:43", after := #[{ on := 18, ground := Ground.data }, { on := 38, ground := Ground.data }], guard := none } : Oper)) (v := ?_) rfl (by kernel_rfl) (by kernel_rfl) (by kernel_rfl) (fun _ _ _ h => h) (Or.inl ⟨by rfl, ?_⟩) hHeld ?_
            rotate_left
            · (intro w hSw; (try dsimp only at hSw); go_simp) <;> with_reducible rfl
            try simp only [Act.put, List.setIfInBounds_toArray, List.set_cons_zero, List.set_cons_succ]
            refine wpAnyH_done (by kernel_rfl) ?_ _
            go_wp2_with fail
            go_meet
            exact ⟨by rw [HWt.out], HB5.out⟩
          · have hlt9 : y.dot < ry.length := by have := HRn.out; omega
            have HSym := hws _ (List.getElem?_eq_getElem hlt9)
            obtain ⟨bs, os, rfl, hbs, q0, q1⟩ := hry.sym hlt9
            have hbs4 : bs < w4.heap.size := Nat.lt_of_lt_of_le hbs HBw4.out.size
            generalize ry[y.dot] = sy at *
            obtain ⟨sb, sn⟩ := sy
            simp only at q0 q1
            rw [decide_eq_false he] at HWq
            have i5 : (0 : Int) ≤ (y.dot : Int) := by omega
            have i6 : (y.dot : Int) < (rn : Int) := by have := HRn.out; omega
            have hl4 := HL0.out w4 HB4.out
            have HWt : Hid (Ch.wants ⟨t, n, s, ps⟩ nx y = (sb && decide (sn = nx))) := by
              show _ = _
              unfold Ch.wants
              rw [HSym]
            clear hwn hws hpos hdY he HSym hlt9
            have HC4 : Hid (∀ wx, Bl w4 wx → wx.cell? ⟨w.heap.size, 0, none⟩ = some (.int .i64 t) ∧ wx.cell? ⟨w.heap.size, 1, none⟩ = some (.int .i64 n) ∧ wx.cell? ⟨w.heap.size, 2, none⟩ = some (.int .i64 s) ∧ wx.cell? ⟨w.heap.size, 3, none⟩ = some (.slice (some ⟨bp, op, none⟩) len c) ∧ wx.cell? ⟨yb, 0, none⟩ = some (.int .i64 (y.prod : Int)) ∧ wx.cell? ⟨yb, 1, none⟩ = some (.int .i64 (y.dot : Int)) ∧ wx.cell? ⟨yb, 2, none⟩ = some (.int .i64 (y.frm : Int)) ∧ wx.cell? ⟨w.heap.size + 1, 0, none⟩ = some (.int .i64 (x.prod : Int)) ∧ wx.cell? ⟨bp, op + x.prod * 2, none⟩ = some (.int .i64 nx) ∧ wx.cell? ⟨bp, op + y.prod * 2 + 1, none⟩ = some (.slice (some ⟨bs, os, none⟩) rn cy) ∧ wx.cell? ⟨bs, os + y.dot * 2, none⟩ = some (.bool sb) ∧ wx.cell? ⟨bs, os + y.dot * 2 + 1, none⟩ = some (.int .i64 sn)) := fun wx hb => by
              have h1 := HK4.out.bl hb
              have h2 := HY9.out.bl hb
              have h3 := HX4.out.bl hb
              exact ⟨h1.cell 0, h1.cell 1, h1.cell 2, h1.cell 3, h2.cell 0, h2.cell 1, h2.cell 2, h3.cell 0, (Below.cell hb (p := ⟨bp, op + x.prod * 2, none⟩) hbp4).trans hl4, (Below.cell hb (p := ⟨bp, op + y.prod * 2 + 1, none⟩) hbp4).trans hcy, (Below.cell hb (p := ⟨bs, os + y.dot * 2, none⟩) hbs4).trans q0, (Below.cell hb (p := ⟨bs, os + y.dot * 2 + 1, none⟩) hbs4).trans q1⟩
            clear q0 q1 hl4 hcy hly hry
            cases sb with
            | false =>
              refine wp_region_held_drew (S := (fun wx => wx.cell? ⟨w.heap.size, 0, none⟩ = some (.int .i64 t) ∧ wx.cell? ⟨w.heap.size, 1, none⟩ = some (.int .i64 n) ∧ wx.cell? ⟨w.heap.size, 2, none⟩ = some (.int .i64 s) ∧ wx.cell? ⟨w.heap.size, 3, none⟩ = some (.slice (some ⟨bp, op, none⟩) len c) ∧ wx.cell? ⟨yb, 0, none⟩ = some (.int .i64 (y.prod : Int)) ∧ wx.cell? ⟨yb, 1, none⟩ = some (.int .i64 (y.dot : Int)) ∧ wx.cell? ⟨yb, 2, none⟩ = some (.int .i64 (y.frm : Int)) ∧ wx.cell? ⟨w.heap.size + 1, 0, none⟩ = some (.int .i64 (x.prod : Int)) ∧ wx.cell? ⟨bp, op + x.prod * 2, none⟩ = some (.int .i64 nx) ∧ wx.cell? ⟨bp, op + y.prod * 2 + 1, none⟩ = some (.slice (some ⟨bs, os, none⟩) rn cy) ∧ wx.cell? ⟨bs, os + y.dot * 2, none⟩ = some (.bool false) ∧ wx.cell? ⟨bs, os + y.dot * 2 + 1, none⟩ = some (.int .i64 sn))) (by kernel_rfl) (HC4.out _ HBd.out) (fun hHeld => ?_)
              refine wpAnyH_take (i := 0) (oi := ({ dst := some 42, op := Op.load 24 (Operand.tmp 5), type := 24, pos := "ref.go:43", after := #[], guard := none } : Oper)) (v := ?_) rfl (by kernel_rfl) (by kernel_rfl) (by kernel_rfl) (fun _ _ _ h => h) (Or.inl ⟨by rfl, ?_⟩) hHeld ?_
              rotate_left
              · (intro w hSw; (try dsimp only at hSw); go_simp) <;> with_reducible rfl
              try simp only [Act.put, List.setIfInBounds_toArray, List.set_cons_zero, List.set_cons_succ]
              refine wpAnyH_take (i := 1) (oi := ({ dst := some 43, op := Op.load 42 (Operand.tmp 15), type := 42, pos := "ref.go:43", after := #[], guard := none } : Oper)) (v := ?_) rfl (by kernel_rfl) (by kernel_rfl) (by kernel_rfl) (fun _ _ _ h => h) (Or.inl ⟨by rfl, ?_⟩) hHeld ?_
              rotate_left
              · (intro w hSw; (try dsimp only at hSw); go_simp) <;> with_reducible rfl
              try simp only [Act.put, List.setIfInBounds_toArray, List.set_cons_zero, List.set_cons_succ]
              refine wpAnyH_ready (rs := [2]) (by kernel_rfl) (by simp) ?_
              refine AllReadyH.cons (o := ({ dst := some 44, op := Op.call { callee := Callee.value (Operand.func 42), args := #[Operand.tmp 42, Operand.tmp 43], argTypes := #[24, 42] }, type := 4, pos := "ref.go:43", after := #[{ on := 0, ground := Ground.data }, { on := 1, ground := Ground.data }], guard := none } : Oper)) rfl (fun K hK => ?_) (AllReadyH.nil)
              go_simp
              ((with_reducible refine (HWq.out _ HBd.out).mono ?_); rintro e w5 ⟨rfl, hb5⟩)
              have HB5 : Hid (Bl w4 w5) := Bl.undrew hb5
              clear hb5
              go_wp2_with fail
              refine hK.out _ _ (HC4.out _ HB5.out) (fun hHeld => ?_)
              clear hK K
              try simp only [Act.put, List.setIfInBounds_toArray, List.set_cons_zero, List.set_cons_succ]
              refine wpAnyH_take (i := 3) (oi := ({ dst := some 45, op := Op.unOp UnOp.not 4 (Operand.tmp 44), type := 4, pos := "ref.go:43", after := #[{ on := 2, ground := Ground.data }], guard := none } : Oper)) (v := ?_) rfl (by kernel_rfl) (by kernel_rfl) (by kernel_rfl) (fun _ _ _ h => h) (Or.inl ⟨by rfl, ?_⟩) hHeld ?_
              rotate_left
              · (intro w hSw; (try dsimp only at hSw); go_simp) <;> with_reducible rfl
              try simp only [Act.put, List.setIfInBounds_toArray, List.set_cons_zero, List.set_cons_succ]
              refine wpAnyH_take (i := 4) (oi := ({ dst := some 46, op := Op.move (Operand.tmp 45), type := 4, pos := "ref.go:43", after := #[{ on := 3, ground := Ground.data }, { on := 2, ground := Ground.chain }], guard := none } : Oper)) (v := ?_) rfl (by kernel_rfl) (by kernel_rfl) (by kernel_rfl) (fun _ _ _ h => h) (Or.inl ⟨by rfl, ?_⟩) hHeld ?_
              rotate_left
              · (intro w hSw; (try dsimp only at hSw); go_simp) <;> with_reducible rfl
              try simp only [Act.put, List.setIfInBounds_toArray, List.set_cons_zero, List.set_cons_succ]
              refine wpAnyH_take (i := 5) (oi := ({ dst := some 47, op := Op.fieldAddr 24 (Operand.tmp 5) 3, type := 0, pos := "ref.go:43", after := #[{ on := 4, ground := Ground.guard }], guard := some (4, true) } : Oper)) (v := ?_) rfl (by kernel_rfl) (by kernel_rfl) (by kernel_rfl) (fun _ _ _ h => h) (Or.inl ⟨by rfl, ?_⟩) hHeld ?_
              rotate_left
              · (intro w hSw; (try dsimp only at hSw); go_simp) <;> with_reducible rfl
              try simp only [Act.put, List.setIfInBounds_toArray, List.set_cons_zero, List.set_cons_succ]
              refine wpAnyH_take (i := 6) (oi := ({ dst := some 48, op := Op.load 22 (Operand.tmp 47), type := 22, pos := "ref.go:43", after := #[{ on := 5, ground := Ground.data }, { on := 4, ground := Ground.guard }], guard := some (4, true) } : Oper)) (v := ?_) rfl (by kernel_rfl) (by kernel_rfl) (by kernel_rfl) (fun _ _ _ h => h) (Or.inl ⟨by rfl, ?_⟩) hHeld ?_
              rotate_left
              · (intro w hSw; (try dsimp only at hSw); go_simp) <;> with_reducible rfl
              try simp only [Act.put, List.setIfInBounds_toArray, List.set_cons_zero, List.set_cons_succ]
              refine wpAnyH_take (i := 7) (oi := ({ dst := some 49, op := Op.fieldAddr 42 (Operand.tmp 15) 0, type := 0, pos := "ref.go:43", after := #[{ on := 4, ground := Ground.guard }], guard := some (4, true) } : Oper)) (v := ?_) rfl (by kernel_rfl) (by kernel_rfl) (by kernel_rfl) (fun _ _ _ h => h) (Or.inl ⟨by rfl, ?_⟩) hHeld ?_
              rotate_left
              · (intro w hSw; (try dsimp only at hSw); go_simp) <;> with_reducible rfl
              try simp only [Act.put, List.setIfInBounds_toArray, List.set_cons_zero, List.set_cons_succ]
              refine wpAnyH_take (i := 8) (oi := ({ dst := some 50, op := Op.load 3 (Operand.tmp 49), type := 3, pos := "ref.go:43", after := #[{ on := 7, ground := Ground.data }, { on := 4, ground := Ground.guard }], guard := some (4, true) } : Oper)) (v := ?_) rfl (by kernel_rfl) (by kernel_rfl) (by kernel_rfl) (fun _ _ _ h => h) (Or.inl ⟨by rfl, ?_⟩) hHeld ?_
              rotate_left
              · (intro w hSw; (try dsimp only at hSw); go_simp) <;> with_reducible rfl
              try simp only [Act.put, List.setIfInBounds_toArray, List.set_cons_zero, List.set_cons_succ]
              refine wpAnyH_take (i := 9) (oi := ({ dst := some 51, op := Op.indexAddr 22 (Operand.tmp 48) (Operand.tmp 50), type := 0, pos := "ref.go:43", after := #[{ on := 6, ground := Ground.data }, { on := 8, ground := Ground.data }, { on := 4, ground := Ground.guard }], guard := some (4, true) } : Oper)) (v := ?_) rfl (by kernel_rfl) (by kernel_rfl) (by kernel_rfl) (fun _ _ _ h => h) (Or.inl ⟨by rfl, ?_⟩) hHeld ?_
              rotate_left
              · (intro w hSw; (try dsimp only at hSw); go_simp) <;> with_reducible rfl
              try simp only [Act.put, List.setIfInBounds_toArray, List.set_cons_zero, List.set_cons_succ]
              refine wpAnyH_take (i := 10) (oi := ({ dst := some 52, op := Op.fieldAddr 40 (Operand.tmp 51) 1, type := 0, pos := "ref.go:43", after := #[{ on := 9, ground := Ground.data }, { on := 4, ground := Ground.guard }], guard := some (4, true) } : Oper)) (v := ?_) rfl (by kernel_rfl) (by kernel_rfl) (by kernel_rfl) (fun _ _ _ h => h) (Or.inl ⟨by rfl, ?_⟩) hHeld ?_
              rotate_left
              · (intro w hSw; (try dsimp only at hSw); go_simp) <;> with_reducible rfl
              try simp only [Act.put, List.setIfInBounds_toArray, List.set_cons_zero, List.set_cons_succ]
              refine wpAnyH_take (i := 11) (oi := ({ dst := some 53, op := Op.load 38 (Operand.tmp 52), type := 38, pos := "ref.go:43", after := #[{ on := 10, ground := Ground.data }, { on := 4, ground := Ground.guard }], guard := some (4, true) } : Oper)) (v := ?_) rfl (by kernel_rfl) (by kernel_rfl) (by kernel_rfl) (fun _ _ _ h => h) (Or.inl ⟨by rfl, ?_⟩) hHeld ?_
              rotate_left
              · (intro w hSw; (try dsimp only at hSw); go_simp) <;> with_reducible rfl
              try simp only [Act.put, List.setIfInBounds_toArray, List.set_cons_zero, List.set_cons_succ]
              refine wpAnyH_take (i := 12) (oi := ({ dst := some 54, op := Op.fieldAddr 42 (Operand.tmp 15) 1, type := 0, pos := "ref.go:43", after := #[{ on := 4, ground := Ground.guard }], guard := some (4, true) } : Oper)) (v := ?_) rfl (by kernel_rfl) (by kernel_rfl) (by kernel_rfl) (fun _ _ _ h => h) (Or.inl ⟨by rfl, ?_⟩) hHeld ?_
              rotate_left
              · (intro w hSw; (try dsimp only at hSw); go_simp) <;> with_reducible rfl
              try simp only [Act.put, List.setIfInBounds_toArray, List.set_cons_zero, List.set_cons_succ]
              refine wpAnyH_take (i := 13) (oi := ({ dst := some 55, op := Op.load 3 (Operand.tmp 54), type := 3, pos := "ref.go:43", after := #[{ on := 12, ground := Ground.data }, { on := 4, ground := Ground.guard }], guard := some (4, true) } : Oper)) (v := ?_) rfl (by kernel_rfl) (by kernel_rfl) (by kernel_rfl) (fun _ _ _ h => h) (Or.inl ⟨by rfl, ?_⟩) hHeld ?_
              rotate_left
              · (intro w hSw; (try dsimp only at hSw); go_simp) <;> with_reducible rfl
              try simp only [Act.put, List.setIfInBounds_toArray, List.set_cons_zero, List.set_cons_succ]
              refine wpAnyH_take (i := 14) (oi := ({ dst := some 56, op := Op.indexAddr 38 (Operand.tmp 53) (Operand.tmp 55), type := 0, pos := "ref.go:43", after := #[{ on := 11, ground := Ground.data }, { on := 13, ground := Ground.data }, { on := 4, ground := Ground.guard }], guard := some (4, true) } : Oper)) (v := ?_) rfl (by kernel_rfl) (by kernel_rfl) (by kernel_rfl) (fun _ _ _ h => h) (Or.inl ⟨by rfl, ?_⟩) hHeld ?_
              rotate_left
              · (intro w hSw; (try dsimp only at hSw); go_simp) <;> with_reducible rfl
              try simp only [Act.put, List.setIfInBounds_toArray, List.set_cons_zero, List.set_cons_succ]
              refine wpAnyH_take (i := 15) (oi := ({ dst := some 57, op := Op.fieldAddr 37 (Operand.tmp 56) 0, type := 0, pos := "ref.go:43", after := #[{ on := 14, ground := Ground.data }, { on := 4, ground := Ground.guard }], guard := some (4, true) } : Oper)) (v := ?_) rfl (by kernel_rfl) (by kernel_rfl) (by kernel_rfl) (fun _ _ _ h => h) (Or.inl ⟨by rfl, ?_⟩) hHeld ?_
              rotate_left
              · (intro w hSw; (try dsimp only at hSw); go_simp) <;> with_reducible rfl
              try simp only [Act.put, List.setIfInBounds_toArray, List.set_cons_zero, List.set_cons_succ]
              refine wpAnyH_take (i := 16) (oi := ({ dst := some 58, op := Op.load 4 (Operand.tmp 57), type := 4, pos := "ref.go:43", after := #[{ on := 15, ground := Ground.data }, { on := 4, ground := Ground.guard }], guard := some (4, true) } : Oper)) (v := ?_) rfl (by kernel_rfl) (by kernel_rfl) (by kernel_rfl) (fun _ _ _ h => h) (Or.inl ⟨by rfl, ?_⟩) hHeld ?_
              rotate_left
              · (intro w hSw; (try dsimp only at hSw); go_simp) <;> with_reducible rfl
              try simp only [Act.put, List.setIfInBounds_toArray, List.set_cons_zero, List.set_cons_succ]
              refine wpAnyH_take (i := 17) (oi := ({ dst := some 59, op := Op.pick (Operand.tmp 46) (Operand.tmp 58) (Operand.const (Value.bool false)), type := 4, pos := "ref.go:43", after := #[{ on := 4, ground := Ground.data }, { on := 16, ground := Ground.data }], guard := none } : Oper)) (v := ?_) rfl (by kernel_rfl) (by kernel_rfl) (by kernel_rfl) (fun _ _ _ h => h) (Or.inl ⟨by rfl, ?_⟩) hHeld ?_
              rotate_left
              · (intro w hSw; (try dsimp only at hSw); go_simp) <;> with_reducible rfl
              try simp only [Act.put, List.setIfInBounds_toArray, List.set_cons_zero, List.set_cons_succ]
              refine wpAnyH_take (i := 18) (oi := ({ dst := some 60, op := Op.move (Operand.tmp 59), type := 4, pos := "ref.go:43", after := #[{ on := 17, ground := Ground.data }, { on := 4, ground := Ground.chain }], guard := none } : Oper)) (v := ?_) rfl (by kernel_rfl) (by kernel_rfl) (by kernel_rfl) (fun _ _ _ h => h) (Or.inl ⟨by rfl, ?_⟩) hHeld ?_
              rotate_left
              · (intro w hSw; (try dsimp only at hSw); go_simp) <;> with_reducible rfl
              try simp only [Act.put, List.setIfInBounds_toArray, List.set_cons_zero, List.set_cons_succ]
              refine wpAnyH_take (i := 19) (oi := ({ dst := some 61, op := Op.fieldAddr 24 (Operand.tmp 5) 3, type := 0, pos := "ref.go:43", after := #[{ on := 18, ground := Ground.guard }], guard := some (18, true) } : Oper)) (v := undef) rfl (by kernel_rfl) (by kernel_rfl) (by kernel_rfl) (fun _ _ _ h => h) (Or.inr ⟨by rfl, rfl⟩) hHeld ?_
              try simp only [Act.put, List.setIfInBounds_toArray, List.set_cons_zero, List.set_cons_succ]
              refine wpAnyH_take (i := 20) (oi := ({ dst := some 62, op := Op.load 22 (Operand.tmp 61), type := 22, pos := "ref.go:43", after := #[{ on := 19, ground := Ground.data }, { on := 18, ground := Ground.guard }], guard := some (18, true) } : Oper)) (v := undef) rfl (by kernel_rfl) (by kernel_rfl) (by kernel_rfl) (fun _ _ _ h => h) (Or.inr ⟨by rfl, rfl⟩) hHeld ?_
              try simp only [Act.put, List.setIfInBounds_toArray, List.set_cons_zero, List.set_cons_succ]
              refine wpAnyH_take (i := 21) (oi := ({ dst := some 63, op := Op.fieldAddr 42 (Operand.tmp 15) 0, type := 0, pos := "ref.go:43", after := #[{ on := 18, ground := Ground.guard }], guard := some (18, true) } : Oper)) (v := undef) rfl (by kernel_rfl) (by kernel_rfl) (by kernel_rfl) (fun _ _ _ h => h) (Or.inr ⟨by rfl, rfl⟩) hHeld ?_
              try simp only [Act.put, List.setIfInBounds_toArray, List.set_cons_zero, List.set_cons_succ]
              refine wpAnyH_take (i := 22) (oi := ({ dst := some 64, op := Op.load 3 (Operand.tmp 63), type := 3, pos := "ref.go:43", after := #[{ on := 21, ground := Ground.data }, { on := 18, ground := Ground.guard }], guard := some (18, true) } : Oper)) (v := undef) rfl (by kernel_rfl) (by kernel_rfl) (by kernel_rfl) (fun _ _ _ h => h) (Or.inr ⟨by rfl, rfl⟩) hHeld ?_
              try simp only [Act.put, List.setIfInBounds_toArray, List.set_cons_zero, List.set_cons_succ]
              refine wpAnyH_take (i := 23) (oi := ({ dst := some 65, op := Op.indexAddr 22 (Operand.tmp 62) (Operand.tmp 64), type := 0, pos := "ref.go:43", after := #[{ on := 20, ground := Ground.data }, { on := 22, ground := Ground.data }, { on := 18, ground := Ground.guard }], guard := some (18, true) } : Oper)) (v := undef) rfl (by kernel_rfl) (by kernel_rfl) (by kernel_rfl) (fun _ _ _ h => h) (Or.inr ⟨by rfl, rfl⟩) hHeld ?_
              try simp only [Act.put, List.setIfInBounds_toArray, List.set_cons_zero, List.set_cons_succ]
              refine wpAnyH_take (i := 24) (oi := ({ dst := some 66, op := Op.fieldAddr 40 (Operand.tmp 65) 1, type := 0, pos := "ref.go:43", after := #[{ on := 23, ground := Ground.data }, { on := 18, ground := Ground.guard }], guard := some (18, true) } : Oper)) (v := undef) rfl (by kernel_rfl) (by kernel_rfl) (by kernel_rfl) (fun _ _ _ h => h) (Or.inr ⟨by rfl, rfl⟩) hHeld ?_
              try simp only [Act.put, List.setIfInBounds_toArray, List.set_cons_zero, List.set_cons_succ]
              refine wpAnyH_take (i := 25) (oi := ({ dst := some 67, op := Op.load 38 (Operand.tmp 66), type := 38, pos := "ref.go:43", after := #[{ on := 24, ground := Ground.data }, { on := 18, ground := Ground.guard }], guard := some (18, true) } : Oper)) (v := undef) rfl (by kernel_rfl) (by kernel_rfl) (by kernel_rfl) (fun _ _ _ h => h) (Or.inr ⟨by rfl, rfl⟩) hHeld ?_
              try simp only [Act.put, List.setIfInBounds_toArray, List.set_cons_zero, List.set_cons_succ]
              refine wpAnyH_take (i := 26) (oi := ({ dst := some 68, op := Op.fieldAddr 42 (Operand.tmp 15) 1, type := 0, pos := "ref.go:43", after := #[{ on := 18, ground := Ground.guard }], guard := some (18, true) } : Oper)) (v := undef) rfl (by kernel_rfl) (by kernel_rfl) (by kernel_rfl) (fun _ _ _ h => h) (Or.inr ⟨by rfl, rfl⟩) hHeld ?_
              try simp only [Act.put, List.setIfInBounds_toArray, List.set_cons_zero, List.set_cons_succ]
              refine wpAnyH_take (i := 27) (oi := ({ dst := some 69, op := Op.load 3 (Operand.tmp 68), type := 3, pos := "ref.go:43", after := #[{ on := 26, ground := Ground.data }, { on := 18, ground := Ground.guard }], guard := some (18, true) } : Oper)) (v := undef) rfl (by kernel_rfl) (by kernel_rfl) (by kernel_rfl) (fun _ _ _ h => h) (Or.inr ⟨by rfl, rfl⟩) hHeld ?_
              try simp only [Act.put, List.setIfInBounds_toArray, List.set_cons_zero, List.set_cons_succ]
              refine wpAnyH_take (i := 28) (oi := ({ dst := some 70, op := Op.indexAddr 38 (Operand.tmp 67) (Operand.tmp 69), type := 0, pos := "ref.go:43", after := #[{ on := 25, ground := Ground.data }, { on := 27, ground := Ground.data }, { on := 18, ground := Ground.guard }], guard := some (18, true) } : Oper)) (v := undef) rfl (by kernel_rfl) (by kernel_rfl) (by kernel_rfl) (fun _ _ _ h => h) (Or.inr ⟨by rfl, rfl⟩) hHeld ?_
              try simp only [Act.put, List.setIfInBounds_toArray, List.set_cons_zero, List.set_cons_succ]
              refine wpAnyH_take (i := 29) (oi := ({ dst := some 71, op := Op.fieldAddr 37 (Operand.tmp 70) 1, type := 0, pos := "ref.go:43", after := #[{ on := 28, ground := Ground.data }, { on := 18, ground := Ground.guard }], guard := some (18, true) } : Oper)) (v := undef) rfl (by kernel_rfl) (by kernel_rfl) (by kernel_rfl) (fun _ _ _ h => h) (Or.inr ⟨by rfl, rfl⟩) hHeld ?_
              try simp only [Act.put, List.setIfInBounds_toArray, List.set_cons_zero, List.set_cons_succ]
              refine wpAnyH_take (i := 30) (oi := ({ dst := some 72, op := Op.load 3 (Operand.tmp 71), type := 3, pos := "ref.go:43", after := #[{ on := 29, ground := Ground.data }, { on := 18, ground := Ground.guard }], guard := some (18, true) } : Oper)) (v := undef) rfl (by kernel_rfl) (by kernel_rfl) (by kernel_rfl) (fun _ _ _ h => h) (Or.inr ⟨by rfl, rfl⟩) hHeld ?_
              try simp only [Act.put, List.setIfInBounds_toArray, List.set_cons_zero, List.set_cons_succ]
              refine wpAnyH_take (i := 31) (oi := ({ dst := some 73, op := Op.fieldAddr 24 (Operand.tmp 5) 3, type := 0, pos := "ref.go:43", after := #[{ on := 18, ground := Ground.guard }], guard := some (18, true) } : Oper)) (v := undef) rfl (by kernel_rfl) (by kernel_rfl) (by kernel_rfl) (fun _ _ _ h => h) (Or.inr ⟨by rfl, rfl⟩) hHeld ?_
              try simp only [Act.put, List.setIfInBounds_toArray, List.set_cons_zero, List.set_cons_succ]
              refine wpAnyH_take (i := 32) (oi := ({ dst := some 74, op := Op.load 22 (Operand.tmp 73), type := 22, pos := "ref.go:43", after := #[{ on := 31, ground := Ground.data }, { on := 18, ground := Ground.guard }], guard := some (18, true) } : Oper)) (v := undef) rfl (by kernel_rfl) (by kernel_rfl) (by kernel_rfl) (fun _ _ _ h => h) (Or.inr ⟨by rfl, rfl⟩) hHeld ?_
              try simp only [Act.put, List.setIfInBounds_toArray, List.set_cons_zero, List.set_cons_succ]
              refine wpAnyH_take (i := 33) (oi := ({ dst := some 75, op := Op.fieldAddr 42 (Operand.tmp 8) 0, type := 0, pos := "ref.go:43", after := #[{ on := 18, ground := Ground.guard }], guard := some (18, true) } : Oper)) (v := undef) rfl (by kernel_rfl) (by kernel_rfl) (by kernel_rfl) (fun _ _ _ h => h) (Or.inr ⟨by rfl, rfl⟩) hHeld ?_
              try simp only [Act.put, List.setIfInBounds_toArray, List.set_cons_zero, List.set_cons_succ]
              refine wpAnyH_take (i := 34) (oi := ({ dst := some 76, op := Op.load 3 (Operand.tmp 75), type := 3, pos := "ref.go:43", after := #[{ on := 33, ground := Ground.data }, { on := 18, ground := Ground.guard }], guard := some (18, true) } : Oper)) (v := undef) rfl (by kernel_rfl) (by kernel_rfl) (by kernel_rfl) (fun _ _ _ h => h) (Or.inr ⟨by rfl, rfl⟩) hHeld ?_
              try simp only [Act.put, List.setIfInBounds_toArray, List.set_cons_zero, List.set_cons_succ]
              refine wpAnyH_take (i := 35) (oi := ({ dst := some 77, op := Op.indexAddr 22 (Operand.tmp 74) (Operand.tmp 76), type := 0, pos := "ref.go:43", after := #[{ on := 32, ground := Ground.data }, { on := 34, ground := Ground.data }, { on := 18, ground := Ground.guard }], guard := some (18, true) } : Oper)) (v := undef) rfl (by kernel_rfl) (by kernel_rfl) (by kernel_rfl) (fun _ _ _ h => h) (Or.inr ⟨by rfl, rfl⟩) hHeld ?_
              try simp only [Act.put, List.setIfInBounds_toArray, List.set_cons_zero, List.set_cons_succ]
              refine wpAnyH_take (i := 36) (oi := ({ dst := some 78, op := Op.fieldAddr 40 (Operand.tmp 77) 0, type := 0, pos := "ref.go:43", after := #[{ on := 35, ground := Ground.data }, { on := 18, ground := Ground.guard }], guard := some (18, true) } : Oper)) (v := undef) rfl (by kernel_rfl) (by kernel_rfl) (by kernel_rfl) (fun _ _ _ h => h) (Or.inr ⟨by rfl, rfl⟩) hHeld ?_
              try simp only [Act.put, List.setIfInBounds_toArray, List.set_cons_zero, List.set_cons_succ]
              refine wpAnyH_take (i := 37) (oi := ({ dst := some 79, op := Op.load 3 (Operand.tmp 78), type := 3, pos := "ref.go:43", after := #[{ on := 36, ground := Ground.data }, { on := 18, ground := Ground.guard }], guard := some (18, true) } : Oper)) (v := undef) rfl (by kernel_rfl) (by kernel_rfl) (by kernel_rfl) (fun _ _ _ h => h) (Or.inr ⟨by rfl, rfl⟩) hHeld ?_
              try simp only [Act.put, List.setIfInBounds_toArray, List.set_cons_zero, List.set_cons_succ]
              refine wpAnyH_take (i := 38) (oi := ({ dst := some 80, op := Op.binOp BinOp.eql 3 (Operand.tmp 72) (Operand.tmp 79) 3, type := 4, pos := "ref.go:43", after := #[{ on := 30, ground := Ground.data }, { on := 37, ground := Ground.data }, { on := 18, ground := Ground.guard }], guard := some (18, true) } : Oper)) (v := undef) rfl (by kernel_rfl) (by kernel_rfl) (by kernel_rfl) (fun _ _ _ h => h) (Or.inr ⟨by rfl, rfl⟩) hHeld ?_
              try simp only [Act.put, List.setIfInBounds_toArray, List.set_cons_zero, List.set_cons_succ]
              refine wpAnyH_take (i := 39) (oi := ({ dst := some 81, op := Op.pick (Operand.tmp 60) (Operand.tmp 80) (Operand.const (Value.bool false)), type := 4, pos := "ref.go:43", after := #[{ on := 18, ground := Ground.data }, { on := 38, ground := Ground.data }], guard := none } : Oper)) (v := ?_) rfl (by kernel_rfl) (by kernel_rfl) (by kernel_rfl) (fun _ _ _ h => h) (Or.inl ⟨by rfl, ?_⟩) hHeld ?_
              rotate_left
              · (intro w hSw; (try dsimp only at hSw); go_simp) <;> with_reducible rfl
              try simp only [Act.put, List.setIfInBounds_toArray, List.set_cons_zero, List.set_cons_succ]
              refine wpAnyH_done (by kernel_rfl) ?_ _
              go_wp2_with fail
              go_meet
              exact ⟨by rw [HWt.out]; rfl, HB5.out⟩
            | true =>
              refine wp_region_held_drew (S := (fun wx => wx.cell? ⟨w.heap.size, 0, none⟩ = some (.int .i64 t) ∧ wx.cell? ⟨w.heap.size, 1, none⟩ = some (.int .i64 n) ∧ wx.cell? ⟨w.heap.size, 2, none⟩ = some (.int .i64 s) ∧ wx.cell? ⟨w.heap.size, 3, none⟩ = some (.slice (some ⟨bp, op, none⟩) len c) ∧ wx.cell? ⟨yb, 0, none⟩ = some (.int .i64 (y.prod : Int)) ∧ wx.cell? ⟨yb, 1, none⟩ = some (.int .i64 (y.dot : Int)) ∧ wx.cell? ⟨yb, 2, none⟩ = some (.int .i64 (y.frm : Int)) ∧ wx.cell? ⟨w.heap.size + 1, 0, none⟩ = some (.int .i64 (x.prod : Int)) ∧ wx.cell? ⟨bp, op + x.prod * 2, none⟩ = some (.int .i64 nx) ∧ wx.cell? ⟨bp, op + y.prod * 2 + 1, none⟩ = some (.slice (some ⟨bs, os, none⟩) rn cy) ∧ wx.cell? ⟨bs, os + y.dot * 2, none⟩ = some (.bool true) ∧ wx.cell? ⟨bs, os + y.dot * 2 + 1, none⟩ = some (.int .i64 sn))) (by kernel_rfl) (HC4.out _ HBd.out) (fun hHeld => ?_)
              refine wpAnyH_take (i := 0) (oi := ({ dst := some 42, op := Op.load 24 (Operand.tmp 5), type := 24, pos := "ref.go:43", after := #[], guard := none } : Oper)) (v := ?_) rfl (by kernel_rfl) (by kernel_rfl) (by kernel_rfl) (fun _ _ _ h => h) (Or.inl ⟨by rfl, ?_⟩) hHeld ?_
              rotate_left
              · (intro w hSw; (try dsimp only at hSw); go_simp) <;> with_reducible rfl
              try simp only [Act.put, List.setIfInBounds_toArray, List.set_cons_zero, List.set_cons_succ]
              refine wpAnyH_take (i := 1) (oi := ({ dst := some 43, op := Op.load 42 (Operand.tmp 15), type := 42, pos := "ref.go:43", after := #[], guard := none } : Oper)) (v := ?_) rfl (by kernel_rfl) (by kernel_rfl) (by kernel_rfl) (fun _ _ _ h => h) (Or.inl ⟨by rfl, ?_⟩) hHeld ?_
              rotate_left
              · (intro w hSw; (try dsimp only at hSw); go_simp) <;> with_reducible rfl
              try simp only [Act.put, List.setIfInBounds_toArray, List.set_cons_zero, List.set_cons_succ]
              refine wpAnyH_ready (rs := [2]) (by kernel_rfl) (by simp) ?_
              refine AllReadyH.cons (o := ({ dst := some 44, op := Op.call { callee := Callee.value (Operand.func 42), args := #[Operand.tmp 42, Operand.tmp 43], argTypes := #[24, 42] }, type := 4, pos := "ref.go:43", after := #[{ on := 0, ground := Ground.data }, { on := 1, ground := Ground.data }], guard := none } : Oper)) rfl (fun K hK => ?_) (AllReadyH.nil)
              go_simp
              ((with_reducible refine (HWq.out _ HBd.out).mono ?_); rintro e w5 ⟨rfl, hb5⟩)
              have HB5 : Hid (Bl w4 w5) := Bl.undrew hb5
              clear hb5
              go_wp2_with fail
              refine hK.out _ _ (HC4.out _ HB5.out) (fun hHeld => ?_)
              clear hK K
              try simp only [Act.put, List.setIfInBounds_toArray, List.set_cons_zero, List.set_cons_succ]
              refine wpAnyH_take (i := 3) (oi := ({ dst := some 45, op := Op.unOp UnOp.not 4 (Operand.tmp 44), type := 4, pos := "ref.go:43", after := #[{ on := 2, ground := Ground.data }], guard := none } : Oper)) (v := ?_) rfl (by kernel_rfl) (by kernel_rfl) (by kernel_rfl) (fun _ _ _ h => h) (Or.inl ⟨by rfl, ?_⟩) hHeld ?_
              rotate_left
              · (intro w hSw; (try dsimp only at hSw); go_simp) <;> with_reducible rfl
              try simp only [Act.put, List.setIfInBounds_toArray, List.set_cons_zero, List.set_cons_succ]
              refine wpAnyH_take (i := 4) (oi := ({ dst := some 46, op := Op.move (Operand.tmp 45), type := 4, pos := "ref.go:43", after := #[{ on := 3, ground := Ground.data }, { on := 2, ground := Ground.chain }], guard := none } : Oper)) (v := ?_) rfl (by kernel_rfl) (by kernel_rfl) (by kernel_rfl) (fun _ _ _ h => h) (Or.inl ⟨by rfl, ?_⟩) hHeld ?_
              rotate_left
              · (intro w hSw; (try dsimp only at hSw); go_simp) <;> with_reducible rfl
              try simp only [Act.put, List.setIfInBounds_toArray, List.set_cons_zero, List.set_cons_succ]
              refine wpAnyH_take (i := 5) (oi := ({ dst := some 47, op := Op.fieldAddr 24 (Operand.tmp 5) 3, type := 0, pos := "ref.go:43", after := #[{ on := 4, ground := Ground.guard }], guard := some (4, true) } : Oper)) (v := ?_) rfl (by kernel_rfl) (by kernel_rfl) (by kernel_rfl) (fun _ _ _ h => h) (Or.inl ⟨by rfl, ?_⟩) hHeld ?_
              rotate_left
              · (intro w hSw; (try dsimp only at hSw); go_simp) <;> with_reducible rfl
              try simp only [Act.put, List.setIfInBounds_toArray, List.set_cons_zero, List.set_cons_succ]
              refine wpAnyH_take (i := 6) (oi := ({ dst := some 48, op := Op.load 22 (Operand.tmp 47), type := 22, pos := "ref.go:43", after := #[{ on := 5, ground := Ground.data }, { on := 4, ground := Ground.guard }], guard := some (4, true) } : Oper)) (v := ?_) rfl (by kernel_rfl) (by kernel_rfl) (by kernel_rfl) (fun _ _ _ h => h) (Or.inl ⟨by rfl, ?_⟩) hHeld ?_
              rotate_left
              · (intro w hSw; (try dsimp only at hSw); go_simp) <;> with_reducible rfl
              try simp only [Act.put, List.setIfInBounds_toArray, List.set_cons_zero, List.set_cons_succ]
              refine wpAnyH_take (i := 7) (oi := ({ dst := some 49, op := Op.fieldAddr 42 (Operand.tmp 15) 0, type := 0, pos := "ref.go:43", after := #[{ on := 4, ground := Ground.guard }], guard := some (4, true) } : Oper)) (v := ?_) rfl (by kernel_rfl) (by kernel_rfl) (by kernel_rfl) (fun _ _ _ h => h) (Or.inl ⟨by rfl, ?_⟩) hHeld ?_
              rotate_left
              · (intro w hSw; (try dsimp only at hSw); go_simp) <;> with_reducible rfl
              try simp only [Act.put, List.setIfInBounds_toArray, List.set_cons_zero, List.set_cons_succ]
              refine wpAnyH_take (i := 8) (oi := ({ dst := some 50, op := Op.load 3 (Operand.tmp 49), type := 3, pos := "ref.go:43", after := #[{ on := 7, ground := Ground.data }, { on := 4, ground := Ground.guard }], guard := some (4, true) } : Oper)) (v := ?_) rfl (by kernel_rfl) (by kernel_rfl) (by kernel_rfl) (fun _ _ _ h => h) (Or.inl ⟨by rfl, ?_⟩) hHeld ?_
              rotate_left
              · (intro w hSw; (try dsimp only at hSw); go_simp) <;> with_reducible rfl
              try simp only [Act.put, List.setIfInBounds_toArray, List.set_cons_zero, List.set_cons_succ]
              refine wpAnyH_take (i := 9) (oi := ({ dst := some 51, op := Op.indexAddr 22 (Operand.tmp 48) (Operand.tmp 50), type := 0, pos := "ref.go:43", after := #[{ on := 6, ground := Ground.data }, { on := 8, ground := Ground.data }, { on := 4, ground := Ground.guard }], guard := some (4, true) } : Oper)) (v := ?_) rfl (by kernel_rfl) (by kernel_rfl) (by kernel_rfl) (fun _ _ _ h => h) (Or.inl ⟨by rfl, ?_⟩) hHeld ?_
              rotate_left
              · (intro w hSw; (try dsimp only at hSw); go_simp) <;> with_reducible rfl
              try simp only [Act.put, List.setIfInBounds_toArray, List.set_cons_zero, List.set_cons_succ]
              refine wpAnyH_take (i := 10) (oi := ({ dst := some 52, op := Op.fieldAddr 40 (Operand.tmp 51) 1, type := 0, pos := "ref.go:43", after := #[{ on := 9, ground := Ground.data }, { on := 4, ground := Ground.guard }], guard := some (4, true) } : Oper)) (v := ?_) rfl (by kernel_rfl) (by kernel_rfl) (by kernel_rfl) (fun _ _ _ h => h) (Or.inl ⟨by rfl, ?_⟩) hHeld ?_
              rotate_left
              · (intro w hSw; (try dsimp only at hSw); go_simp) <;> with_reducible rfl
              try simp only [Act.put, List.setIfInBounds_toArray, List.set_cons_zero, List.set_cons_succ]
              refine wpAnyH_take (i := 11) (oi := ({ dst := some 53, op := Op.load 38 (Operand.tmp 52), type := 38, pos := "ref.go:43", after := #[{ on := 10, ground := Ground.data }, { on := 4, ground := Ground.guard }], guard := some (4, true) } : Oper)) (v := ?_) rfl (by kernel_rfl) (by kernel_rfl) (by kernel_rfl) (fun _ _ _ h => h) (Or.inl ⟨by rfl, ?_⟩) hHeld ?_
              rotate_left
              · (intro w hSw; (try dsimp only at hSw); go_simp) <;> with_reducible rfl
              try simp only [Act.put, List.setIfInBounds_toArray, List.set_cons_zero, List.set_cons_succ]
              refine wpAnyH_take (i := 12) (oi := ({ dst := some 54, op := Op.fieldAddr 42 (Operand.tmp 15) 1, type := 0, pos := "ref.go:43", after := #[{ on := 4, ground := Ground.guard }], guard := some (4, true) } : Oper)) (v := ?_) rfl (by kernel_rfl) (by kernel_rfl) (by kernel_rfl) (fun _ _ _ h => h) (Or.inl ⟨by rfl, ?_⟩) hHeld ?_
              rotate_left
              · (intro w hSw; (try dsimp only at hSw); go_simp) <;> with_reducible rfl
              try simp only [Act.put, List.setIfInBounds_toArray, List.set_cons_zero, List.set_cons_succ]
              refine wpAnyH_take (i := 13) (oi := ({ dst := some 55, op := Op.load 3 (Operand.tmp 54), type := 3, pos := "ref.go:43", after := #[{ on := 12, ground := Ground.data }, { on := 4, ground := Ground.guard }], guard := some (4, true) } : Oper)) (v := ?_) rfl (by kernel_rfl) (by kernel_rfl) (by kernel_rfl) (fun _ _ _ h => h) (Or.inl ⟨by rfl, ?_⟩) hHeld ?_
              rotate_left
              · (intro w hSw; (try dsimp only at hSw); go_simp) <;> with_reducible rfl
              try simp only [Act.put, List.setIfInBounds_toArray, List.set_cons_zero, List.set_cons_succ]
              refine wpAnyH_take (i := 14) (oi := ({ dst := some 56, op := Op.indexAddr 38 (Operand.tmp 53) (Operand.tmp 55), type := 0, pos := "ref.go:43", after := #[{ on := 11, ground := Ground.data }, { on := 13, ground := Ground.data }, { on := 4, ground := Ground.guard }], guard := some (4, true) } : Oper)) (v := ?_) rfl (by kernel_rfl) (by kernel_rfl) (by kernel_rfl) (fun _ _ _ h => h) (Or.inl ⟨by rfl, ?_⟩) hHeld ?_
              rotate_left
              · (intro w hSw; (try dsimp only at hSw); go_simp) <;> with_reducible rfl
              try simp only [Act.put, List.setIfInBounds_toArray, List.set_cons_zero, List.set_cons_succ]
              refine wpAnyH_take (i := 15) (oi := ({ dst := some 57, op := Op.fieldAddr 37 (Operand.tmp 56) 0, type := 0, pos := "ref.go:43", after := #[{ on := 14, ground := Ground.data }, { on := 4, ground := Ground.guard }], guard := some (4, true) } : Oper)) (v := ?_) rfl (by kernel_rfl) (by kernel_rfl) (by kernel_rfl) (fun _ _ _ h => h) (Or.inl ⟨by rfl, ?_⟩) hHeld ?_
              rotate_left
              · (intro w hSw; (try dsimp only at hSw); go_simp) <;> with_reducible rfl
              try simp only [Act.put, List.setIfInBounds_toArray, List.set_cons_zero, List.set_cons_succ]
              refine wpAnyH_take (i := 16) (oi := ({ dst := some 58, op := Op.load 4 (Operand.tmp 57), type := 4, pos := "ref.go:43", after := #[{ on := 15, ground := Ground.data }, { on := 4, ground := Ground.guard }], guard := some (4, true) } : Oper)) (v := ?_) rfl (by kernel_rfl) (by kernel_rfl) (by kernel_rfl) (fun _ _ _ h => h) (Or.inl ⟨by rfl, ?_⟩) hHeld ?_
              rotate_left
              · (intro w hSw; (try dsimp only at hSw); go_simp) <;> with_reducible rfl
              try simp only [Act.put, List.setIfInBounds_toArray, List.set_cons_zero, List.set_cons_succ]
              refine wpAnyH_take (i := 17) (oi := ({ dst := some 59, op := Op.pick (Operand.tmp 46) (Operand.tmp 58) (Operand.const (Value.bool false)), type := 4, pos := "ref.go:43", after := #[{ on := 4, ground := Ground.data }, { on := 16, ground := Ground.data }], guard := none } : Oper)) (v := ?_) rfl (by kernel_rfl) (by kernel_rfl) (by kernel_rfl) (fun _ _ _ h => h) (Or.inl ⟨by rfl, ?_⟩) hHeld ?_
              rotate_left
              · (intro w hSw; (try dsimp only at hSw); go_simp) <;> with_reducible rfl
              try simp only [Act.put, List.setIfInBounds_toArray, List.set_cons_zero, List.set_cons_succ]
              refine wpAnyH_take (i := 18) (oi := ({ dst := some 60, op := Op.move (Operand.tmp 59), type := 4, pos := "ref.go:43", after := #[{ on := 17, ground := Ground.data }, { on := 4, ground := Ground.chain }], guard := none } : Oper)) (v := ?_) rfl (by kernel_rfl) (by kernel_rfl) (by kernel_rfl) (fun _ _ _ h => h) (Or.inl ⟨by rfl, ?_⟩) hHeld ?_
              rotate_left
              · (intro w hSw; (try dsimp only at hSw); go_simp) <;> with_reducible rfl
              try simp only [Act.put, List.setIfInBounds_toArray, List.set_cons_zero, List.set_cons_succ]
              refine wpAnyH_take (i := 19) (oi := ({ dst := some 61, op := Op.fieldAddr 24 (Operand.tmp 5) 3, type := 0, pos := "ref.go:43", after := #[{ on := 18, ground := Ground.guard }], guard := some (18, true) } : Oper)) (v := ?_) rfl (by kernel_rfl) (by kernel_rfl) (by kernel_rfl) (fun _ _ _ h => h) (Or.inl ⟨by rfl, ?_⟩) hHeld ?_
              rotate_left
              · (intro w hSw; (try dsimp only at hSw); go_simp) <;> with_reducible rfl
              try simp only [Act.put, List.setIfInBounds_toArray, List.set_cons_zero, List.set_cons_succ]
              refine wpAnyH_take (i := 20) (oi := ({ dst := some 62, op := Op.load 22 (Operand.tmp 61), type := 22, pos := "ref.go:43", after := #[{ on := 19, ground := Ground.data }, { on := 18, ground := Ground.guard }], guard := some (18, true) } : Oper)) (v := ?_) rfl (by kernel_rfl) (by kernel_rfl) (by kernel_rfl) (fun _ _ _ h => h) (Or.inl ⟨by rfl, ?_⟩) hHeld ?_
              rotate_left
              · (intro w hSw; (try dsimp only at hSw); go_simp) <;> with_reducible rfl
              try simp only [Act.put, List.setIfInBounds_toArray, List.set_cons_zero, List.set_cons_succ]
              refine wpAnyH_take (i := 21) (oi := ({ dst := some 63, op := Op.fieldAddr 42 (Operand.tmp 15) 0, type := 0, pos := "ref.go:43", after := #[{ on := 18, ground := Ground.guard }], guard := some (18, true) } : Oper)) (v := ?_) rfl (by kernel_rfl) (by kernel_rfl) (by kernel_rfl) (fun _ _ _ h => h) (Or.inl ⟨by rfl, ?_⟩) hHeld ?_
              rotate_left
              · (intro w hSw; (try dsimp only at hSw); go_simp) <;> with_reducible rfl
              try simp only [Act.put, List.setIfInBounds_toArray, List.set_cons_zero, List.set_cons_succ]
              refine wpAnyH_take (i := 22) (oi := ({ dst := some 64, op := Op.load 3 (Operand.tmp 63), type := 3, pos := "ref.go:43", after := #[{ on := 21, ground := Ground.data }, { on := 18, ground := Ground.guard }], guard := some (18, true) } : Oper)) (v := ?_) rfl (by kernel_rfl) (by kernel_rfl) (by kernel_rfl) (fun _ _ _ h => h) (Or.inl ⟨by rfl, ?_⟩) hHeld ?_
              rotate_left
              · (intro w hSw; (try dsimp only at hSw); go_simp) <;> with_reducible rfl
              try simp only [Act.put, List.setIfInBounds_toArray, List.set_cons_zero, List.set_cons_succ]
              refine wpAnyH_take (i := 23) (oi := ({ dst := some 65, op := Op.indexAddr 22 (Operand.tmp 62) (Operand.tmp 64), type := 0, pos := "ref.go:43", after := #[{ on := 20, ground := Ground.data }, { on := 22, ground := Ground.data }, { on := 18, ground := Ground.guard }], guard := some (18, true) } : Oper)) (v := ?_) rfl (by kernel_rfl) (by kernel_rfl) (by kernel_rfl) (fun _ _ _ h => h) (Or.inl ⟨by rfl, ?_⟩) hHeld ?_
              rotate_left
              · (intro w hSw; (try dsimp only at hSw); go_simp) <;> with_reducible rfl
              try simp only [Act.put, List.setIfInBounds_toArray, List.set_cons_zero, List.set_cons_succ]
              refine wpAnyH_take (i := 24) (oi := ({ dst := some 66, op := Op.fieldAddr 40 (Operand.tmp 65) 1, type := 0, pos := "ref.go:43", after := #[{ on := 23, ground := Ground.data }, { on := 18, ground := Ground.guard }], guard := some (18, true) } : Oper)) (v := ?_) rfl (by kernel_rfl) (by kernel_rfl) (by kernel_rfl) (fun _ _ _ h => h) (Or.inl ⟨by rfl, ?_⟩) hHeld ?_
              rotate_left
              · (intro w hSw; (try dsimp only at hSw); go_simp) <;> with_reducible rfl
              try simp only [Act.put, List.setIfInBounds_toArray, List.set_cons_zero, List.set_cons_succ]
              refine wpAnyH_take (i := 25) (oi := ({ dst := some 67, op := Op.load 38 (Operand.tmp 66), type := 38, pos := "ref.go:43", after := #[{ on := 24, ground := Ground.data }, { on := 18, ground := Ground.guard }], guard := some (18, true) } : Oper)) (v := ?_) rfl (by kernel_rfl) (by kernel_rfl) (by kernel_rfl) (fun _ _ _ h => h) (Or.inl ⟨by rfl, ?_⟩) hHeld ?_
              rotate_left
              · (intro w hSw; (try dsimp only at hSw); go_simp) <;> with_reducible rfl
              try simp only [Act.put, List.setIfInBounds_toArray, List.set_cons_zero, List.set_cons_succ]
              refine wpAnyH_take (i := 26) (oi := ({ dst := some 68, op := Op.fieldAddr 42 (Operand.tmp 15) 1, type := 0, pos := "ref.go:43", after := #[{ on := 18, ground := Ground.guard }], guard := some (18, true) } : Oper)) (v := ?_) rfl (by kernel_rfl) (by kernel_rfl) (by kernel_rfl) (fun _ _ _ h => h) (Or.inl ⟨by rfl, ?_⟩) hHeld ?_
              rotate_left
              · (intro w hSw; (try dsimp only at hSw); go_simp) <;> with_reducible rfl
              try simp only [Act.put, List.setIfInBounds_toArray, List.set_cons_zero, List.set_cons_succ]
              refine wpAnyH_take (i := 27) (oi := ({ dst := some 69, op := Op.load 3 (Operand.tmp 68), type := 3, pos := "ref.go:43", after := #[{ on := 26, ground := Ground.data }, { on := 18, ground := Ground.guard }], guard := some (18, true) } : Oper)) (v := ?_) rfl (by kernel_rfl) (by kernel_rfl) (by kernel_rfl) (fun _ _ _ h => h) (Or.inl ⟨by rfl, ?_⟩) hHeld ?_
              rotate_left
              · (intro w hSw; (try dsimp only at hSw); go_simp) <;> with_reducible rfl
              try simp only [Act.put, List.setIfInBounds_toArray, List.set_cons_zero, List.set_cons_succ]
              refine wpAnyH_take (i := 28) (oi := ({ dst := some 70, op := Op.indexAddr 38 (Operand.tmp 67) (Operand.tmp 69), type := 0, pos := "ref.go:43", after := #[{ on := 25, ground := Ground.data }, { on := 27, ground := Ground.data }, { on := 18, ground := Ground.guard }], guard := some (18, true) } : Oper)) (v := ?_) rfl (by kernel_rfl) (by kernel_rfl) (by kernel_rfl) (fun _ _ _ h => h) (Or.inl ⟨by rfl, ?_⟩) hHeld ?_
              rotate_left
              · (intro w hSw; (try dsimp only at hSw); go_simp) <;> with_reducible rfl
              try simp only [Act.put, List.setIfInBounds_toArray, List.set_cons_zero, List.set_cons_succ]
              refine wpAnyH_take (i := 29) (oi := ({ dst := some 71, op := Op.fieldAddr 37 (Operand.tmp 70) 1, type := 0, pos := "ref.go:43", after := #[{ on := 28, ground := Ground.data }, { on := 18, ground := Ground.guard }], guard := some (18, true) } : Oper)) (v := ?_) rfl (by kernel_rfl) (by kernel_rfl) (by kernel_rfl) (fun _ _ _ h => h) (Or.inl ⟨by rfl, ?_⟩) hHeld ?_
              rotate_left
              · (intro w hSw; (try dsimp only at hSw); go_simp) <;> with_reducible rfl
              try simp only [Act.put, List.setIfInBounds_toArray, List.set_cons_zero, List.set_cons_succ]
              refine wpAnyH_take (i := 30) (oi := ({ dst := some 72, op := Op.load 3 (Operand.tmp 71), type := 3, pos := "ref.go:43", after := #[{ on := 29, ground := Ground.data }, { on := 18, ground := Ground.guard }], guard := some (18, true) } : Oper)) (v := ?_) rfl (by kernel_rfl) (by kernel_rfl) (by kernel_rfl) (fun _ _ _ h => h) (Or.inl ⟨by rfl, ?_⟩) hHeld ?_
              rotate_left
              · (intro w hSw; (try dsimp only at hSw); go_simp) <;> with_reducible rfl
              try simp only [Act.put, List.setIfInBounds_toArray, List.set_cons_zero, List.set_cons_succ]
              refine wpAnyH_take (i := 31) (oi := ({ dst := some 73, op := Op.fieldAddr 24 (Operand.tmp 5) 3, type := 0, pos := "ref.go:43", after := #[{ on := 18, ground := Ground.guard }], guard := some (18, true) } : Oper)) (v := ?_) rfl (by kernel_rfl) (by kernel_rfl) (by kernel_rfl) (fun _ _ _ h => h) (Or.inl ⟨by rfl, ?_⟩) hHeld ?_
              rotate_left
              · (intro w hSw; (try dsimp only at hSw); go_simp) <;> with_reducible rfl
              try simp only [Act.put, List.setIfInBounds_toArray, List.set_cons_zero, List.set_cons_succ]
              refine wpAnyH_take (i := 32) (oi := ({ dst := some 74, op := Op.load 22 (Operand.tmp 73), type := 22, pos := "ref.go:43", after := #[{ on := 31, ground := Ground.data }, { on := 18, ground := Ground.guard }], guard := some (18, true) } : Oper)) (v := ?_) rfl (by kernel_rfl) (by kernel_rfl) (by kernel_rfl) (fun _ _ _ h => h) (Or.inl ⟨by rfl, ?_⟩) hHeld ?_
              rotate_left
              · (intro w hSw; (try dsimp only at hSw); go_simp) <;> with_reducible rfl
              try simp only [Act.put, List.setIfInBounds_toArray, List.set_cons_zero, List.set_cons_succ]
              refine wpAnyH_take (i := 33) (oi := ({ dst := some 75, op := Op.fieldAddr 42 (Operand.tmp 8) 0, type := 0, pos := "ref.go:43", after := #[{ on := 18, ground := Ground.guard }], guard := some (18, true) } : Oper)) (v := ?_) rfl (by kernel_rfl) (by kernel_rfl) (by kernel_rfl) (fun _ _ _ h => h) (Or.inl ⟨by rfl, ?_⟩) hHeld ?_
              rotate_left
              · (intro w hSw; (try dsimp only at hSw); go_simp) <;> with_reducible rfl
              try simp only [Act.put, List.setIfInBounds_toArray, List.set_cons_zero, List.set_cons_succ]
              refine wpAnyH_take (i := 34) (oi := ({ dst := some 76, op := Op.load 3 (Operand.tmp 75), type := 3, pos := "ref.go:43", after := #[{ on := 33, ground := Ground.data }, { on := 18, ground := Ground.guard }], guard := some (18, true) } : Oper)) (v := ?_) rfl (by kernel_rfl) (by kernel_rfl) (by kernel_rfl) (fun _ _ _ h => h) (Or.inl ⟨by rfl, ?_⟩) hHeld ?_
              rotate_left
              · (intro w hSw; (try dsimp only at hSw); go_simp) <;> with_reducible rfl
              try simp only [Act.put, List.setIfInBounds_toArray, List.set_cons_zero, List.set_cons_succ]
              refine wpAnyH_take (i := 35) (oi := ({ dst := some 77, op := Op.indexAddr 22 (Operand.tmp 74) (Operand.tmp 76), type := 0, pos := "ref.go:43", after := #[{ on := 32, ground := Ground.data }, { on := 34, ground := Ground.data }, { on := 18, ground := Ground.guard }], guard := some (18, true) } : Oper)) (v := ?_) rfl (by kernel_rfl) (by kernel_rfl) (by kernel_rfl) (fun _ _ _ h => h) (Or.inl ⟨by rfl, ?_⟩) hHeld ?_
              rotate_left
              · (intro w hSw; (try dsimp only at hSw); go_simp) <;> with_reducible rfl
              try simp only [Act.put, List.setIfInBounds_toArray, List.set_cons_zero, List.set_cons_succ]
              refine wpAnyH_take (i := 36) (oi := ({ dst := some 78, op := Op.fieldAddr 40 (Operand.tmp 77) 0, type := 0, pos := "ref.go:43", after := #[{ on := 35, ground := Ground.data }, { on := 18, ground := Ground.guard }], guard := some (18, true) } : Oper)) (v := ?_) rfl (by kernel_rfl) (by kernel_rfl) (by kernel_rfl) (fun _ _ _ h => h) (Or.inl ⟨by rfl, ?_⟩) hHeld ?_
              rotate_left
              · (intro w hSw; (try dsimp only at hSw); go_simp) <;> with_reducible rfl
              try simp only [Act.put, List.setIfInBounds_toArray, List.set_cons_zero, List.set_cons_succ]
              refine wpAnyH_take (i := 37) (oi := ({ dst := some 79, op := Op.load 3 (Operand.tmp 78), type := 3, pos := "ref.go:43", after := #[{ on := 36, ground := Ground.data }, { on := 18, ground := Ground.guard }], guard := some (18, true) } : Oper)) (v := ?_) rfl (by kernel_rfl) (by kernel_rfl) (by kernel_rfl) (fun _ _ _ h => h) (Or.inl ⟨by rfl, ?_⟩) hHeld ?_
              rotate_left
              · (intro w hSw; (try dsimp only at hSw); go_simp) <;> with_reducible rfl
              try simp only [Act.put, List.setIfInBounds_toArray, List.set_cons_zero, List.set_cons_succ]
              refine wpAnyH_take (i := 38) (oi := ({ dst := some 80, op := Op.binOp BinOp.eql 3 (Operand.tmp 72) (Operand.tmp 79) 3, type := 4, pos := "ref.go:43", after := #[{ on := 30, ground := Ground.data }, { on := 37, ground := Ground.data }, { on := 18, ground := Ground.guard }], guard := some (18, true) } : Oper)) (v := ?_) rfl (by kernel_rfl) (by kernel_rfl) (by kernel_rfl) (fun _ _ _ h => h) (Or.inl ⟨by rfl, ?_⟩) hHeld ?_
              rotate_left
              · (intro w hSw; (try dsimp only at hSw); go_simp) <;> with_reducible rfl
              try simp only [Act.put, List.setIfInBounds_toArray, List.set_cons_zero, List.set_cons_succ]
              refine wpAnyH_take (i := 39) (oi := ({ dst := some 81, op := Op.pick (Operand.tmp 60) (Operand.tmp 80) (Operand.const (Value.bool false)), type := 4, pos := "ref.go:43", after := #[{ on := 18, ground := Ground.data }, { on := 38, ground := Ground.data }], guard := none } : Oper)) (v := ?_) rfl (by kernel_rfl) (by kernel_rfl) (by kernel_rfl) (fun _ _ _ h => h) (Or.inl ⟨by rfl, ?_⟩) hHeld ?_
              rotate_left
              · (intro w hSw; (try dsimp only at hSw); go_simp) <;> with_reducible rfl
              try simp only [Act.put, List.setIfInBounds_toArray, List.set_cons_zero, List.set_cons_succ]
              refine wpAnyH_done (by kernel_rfl) ?_ _
              go_wp2_with fail
              go_meet
              exact ⟨by rw [HWt.out]; first | rfl | (rw [Bool.true_and]; by_cases e : sn = nx <;> simp [e]), HB5.out⟩
        case rest =>
          obtain ⟨rfl, HBc⟩ := hcut
          have HOc := Lib.hid ((HO.out.bl_ HB9.out).bl_ HBc.out)
          have HYc := Lib.hid (HY9.out.bl HBc.out)
          clear hry hly hcy hbp4 HWq hwn hws HBd hdY hpY HB4 HBw4 HK4 HX4 HY9 HO ht z0 z1 z2 x2 xl hbi i3 i4
          generalize hwb : Ch.wants ⟨t, n, s, ps⟩ nx y = wb at *
          clear hwb
          cases wb with
          | false =>
            have HE : Hid (Ch.lets ⟨t, n, s, ps⟩ nx (l.take (k + 1)) = Ch.lets ⟨t, n, s, ps⟩ nx (l.take k)) := HNo.out (by first | rfl | trivial)
            go_wp2_with fail
            go_roundw
            case rel => exact ⟨k + 1, N, c1, c2, A1, A2, by omega, by omega, rfl, rfl, by go_num, by rw [HE.out]; exact HOc.out⟩
            case measure => simp [intOf]; omega
          | true =>
            have HE : Hid (Ch.lets ⟨t, n, s, ps⟩ nx (l.take (k + 1)) = Ch.lets ⟨t, n, s, ps⟩ nx (l.take k) ++ [Ch.behind y]) := HYes.out (by first | rfl | trivial)
            generalize Ch.lets ⟨t, n, s, ps⟩ nx (l.take k) = ou at *
            have y0 : wc.cell? ⟨yb, 0, none⟩ = some (.int .i64 (y.prod : Int)) := HYc.out.cell 0
            have y1 : wc.cell? ⟨yb, 1, none⟩ = some (.int .i64 (y.dot : Int)) := HYc.out.cell 1
            have y2 : wc.cell? ⟨yb, 2, none⟩ = some (.int .i64 (y.frm : Int)) := HYc.out.cell 2
            have yl := HYc.out.lt
            have hyd : IntKind.i64.wrap ((y.dot : Int) + 1) = (y.dot : Int) + 1 := by rw [IntKind.wrap_i64]; omega
            have HNn := Lib.hid (own_n HOc.out.ro)
            have hN9 : ou.length ≤ 13500 := by have := HNn.out; omega
            have HOx : Hid (OutR w1 (wc.alloc (.cells #[.int .i64 (y.prod : Int), .int .i64 ((y.dot : Int) + 1), .int .i64 (y.frm : Int)] 42)) (.slice A1 N c1) (.slice A2 N c2) ou a) := HOc.out.bl_ ((Bl.refl wc).alloc _)
            have HCx : Hid (∀ j u, (imc (Ch.behind y))[j]? = some u → (wc.alloc (.cells #[.int .i64 (y.prod : Int), .int .i64 ((y.dot : Int) + 1), .int .i64 (y.frm : Int)] 42)).cell? ((⟨wc.heap.size, 0, none⟩ : Addr).add j) = some u) := by
              show ∀ j u, _ → _
              intro j u hu
              exact cells_new wc #[.int .i64 (y.prod : Int), .int .i64 ((y.dot : Int) + 1), .int .i64 (y.frm : Int)] 42 j u hu
            have HSx : Hid (w1.heap.size ≤ (wc.alloc (.cells #[.int .i64 (y.prod : Int), .int .i64 ((y.dot : Int) + 1), .int .i64 (y.frm : Int)] 42)).heap.size) := HOx.out.b.size
            go_wp2_with (first
              | (at_builtin; refine wpList_append_own _ rfl (.tmp 82) (.tmp 91) 34 rfl w1.heap.size 42 i0 (.agg #[.int .i64 0, .int .i64 0, .int .i64 0]) 3 24 Try.underlying34 hi hz0 hz1 hz2 rfl (by decide) _ _ _ rfl HOx.out.ro ⟨wc.heap.size, 0, none⟩ 1 1 (imc (Ch.behind y)) rfl rfl HCx.out (imc_one _) (by simp only [maxLen]; omega) (by omega) HSx.out ?_; intro v6 w6 ho6 hg6 _; have HH6 := Lib.hid (HOx.out.put ho6 hg6); obtain ⟨A6, c6, hv6, _⟩ := own_form ho6; rw [← HNn.out] at hv6; subst hv6; have HH := Lib.hid (HH6.out.bl_ ((Bl.refl w6).alloc (.cells #[.int .i64 (a : Int)] 3))); clear ho6 hg6)
              | (at_builtin; refine wpList_append_keep _ rfl (.tmp 93) (.tmp 95) 25 rfl w1.heap.size 3 j0 (.int .i64 0) 1 8 Try.underlying25 gi gz0 gz1 gz2 rfl (by decide) _ _ _ rfl HH.out.rp ⟨w6.heap.size, 0, none⟩ 1 [.int .i64 (a : Int)] rfl rfl (one_new w6 (.int .i64 (a : Int)) 3) (by simp [Value.oneCell']) (by simp only [maxLen]; omega) (by omega) HH.out.b.size ?_; intro v8 w8 ho8 hg8 hk8; have HX8 := Lib.hid (HH.out.put ho8 hg8); obtain ⟨A8, c8, hv8, _⟩ := own_form ho8; rw [← HNn.out] at hv8; subst hv8; clear ho8 hg8 hk8))
            go_roundw
            case rel => exact ⟨k + 1, N + 1, c6, c8, A6, A8, by omega, by omega, rfl, rfl, by go_num, by rw [HE.out]; exact HX8.out⟩
            case measure => simp [intOf]; omega
      · have hik : ¬ (k : Int) < (L : Int) := by omega
        have hkl : l.take k = l := List.take_of_length_le (by have := HLl.out; omega)
        rw [hkl] at HO
        obtain ⟨hN, hr1, hr2, hb9⟩ := HO.out.done
        have HNn := Lib.hid hN
        have HR1 := Lib.hid hr1
        have HR2 := Lib.hid hr2
        have HB9 := Lib.hid (HB1.out.trans hb9)
        clear hr1 hr2 hb9 hkl HO hN
        generalize hou : Ch.lets ⟨t, n, s, ps⟩ nx l = ou at *
        clear hou
        go_wp2_with fail
        go_ret2
        refine ⟨A1, c1, A2, c2, ?_, ?_, ?_, HB9.out⟩ <;> rw [HOu.out]
        · show _ = Ending.returned (.tuple #[.slice A1 ou.length c1, .slice A2 ou.length c2]); rw [← HNn.out]; rfl
        · exact HR1.out
        · exact HR2.out
  | some sy =>
    obtain ⟨p', hp', hsy⟩ := Ch.symAt_iff.1 hs
    obtain rfl : ps[x.prod] = p' := by have h : ps[x.prod]? = some p' := hp'; rw [List.getElem?_eq_getElem hpi] at h; injection h
    have hxd : x.dot < ps[x.prod].right.length := Ch.lt_of_get hsy
    have HOu0 : Hid (Ch.outI ⟨t, n, s, ps⟩ xs S a x = if sy.non then (Ch.begs ⟨t, n, s, ps⟩ a sy.n, a) else if xs[a]? = some sy.n then ([Ch.behind x], a + 1) else ([], a)) := by show _ = _; rw [HOut.out, hs]
    obtain ⟨bs, os, rfl, hbs, q0, q1⟩ := HRx.out.sym hxd
    have hgs : ps[x.prod].right[x.dot] = sy := by rw [List.getElem?_eq_getElem hxd] at hsy; injection hsy
    rw [hgs] at q0 q1
    have hrl9 := HRl.out _ hpi
    clear hs HOut HLeft HRx hsy hp' hgs HL0 HWy HT HS HFew hd hp
    generalize ps[x.prod].right.length = rn at *
    obtain ⟨sb, sn⟩ := sy
    simp only at q0 q1
    have hbp1 : bp < w1.heap.size := by have h := (HR.out w1 HB1.out x.prod hpi).1; have := HB1.out.size; omega
    have hbs1 : bs < w1.heap.size := Nat.lt_of_lt_of_le hbs HB1.out.size
    have HB13 := Lib.hid (HO3.out 0).b
    have HCs : Hid (∀ wx, Bl w1 wx → wx.cell? ⟨w.heap.size, 3, none⟩ = some (.slice (some ⟨bp, op, none⟩) len c) ∧ wx.cell? ⟨w.heap.size + 1, 0, none⟩ = some (.int .i64 (x.prod : Int)) ∧ wx.cell? ⟨w.heap.size + 1, 1, none⟩ = some (.int .i64 (x.dot : Int)) ∧ wx.cell? ⟨bp, op + x.prod * 2 + 1, none⟩ = some (.slice (some ⟨bs, os, none⟩) rn cx) ∧ wx.cell? ⟨bs, os + x.dot * 2, none⟩ = some (.bool sb) ∧ wx.cell? ⟨bs, os + x.dot * 2 + 1, none⟩ = some (.int .i64 sn)) := fun wx hb => by
      have h1 := HK1.out.bl hb
      have h2 := HX1.out.bl hb
      exact ⟨h1.cell 3, h2.cell 0, h2.cell 1, HC0.out wx hb, (Below.cell hb (p := ⟨bs, os + x.dot * 2, none⟩) hbs1).trans q0, (Below.cell hb (p := ⟨bs, os + x.dot * 2 + 1, none⟩) hbs1).trans q1⟩
    have hd0 : (0 : Int) ≤ (x.dot : Int) := by omega
    have hd1 : (x.dot : Int) < (rn : Int) := by omega
    clear q0 q1 HC0
    have HBd : Hid (Bl w1 w3.drew) := HB13.out.drew
    go_upto_region 12 with fail
    go_region_held3 (fun wx => wx.cell? ⟨w.heap.size, 3, none⟩ = some (.slice (some ⟨bp, op, none⟩) len c) ∧ wx.cell? ⟨w.heap.size + 1, 0, none⟩ = some (.int .i64 (x.prod : Int)) ∧ wx.cell? ⟨w.heap.size + 1, 1, none⟩ = some (.int .i64 (x.dot : Int)) ∧ wx.cell? ⟨bp, op + x.prod * 2 + 1, none⟩ = some (.slice (some ⟨bs, os, none⟩) rn cx) ∧ wx.cell? ⟨bs, os + x.dot * 2, none⟩ = some (.bool sb) ∧ wx.cell? ⟨bs, os + x.dot * 2 + 1, none⟩ = some (.int .i64 sn)) (first | exact HCs.out _ HBd.out | exact HCs.out _ (HBd.out.alloc _)) (fail)
    have HS4 : Hid (Bk (w3.alloc (.cells #[.bool sb, .int .i64 sn] 37)).drew w3.heap.size 37 #[.bool sb, .int .i64 sn]) := (Bk.new w3 _ _).drew
    have HB34 : Hid (Bl w3 (w3.alloc (.cells #[.bool sb, .int .i64 sn] 37)).drew) := ((Bl.refl w3).alloc _).drew
    generalize (w3.alloc (.cells #[.bool sb, .int .i64 sn] 37)).drew = w4 at *
    generalize w3.heap.size = sq at *
    have HO4 := Lib.hid (fun q => (HO3.out q).bl_ HB34.out)
    have HBw4 := Lib.hid (HBw3.out.trans HB34.out)
    have HB14 := Lib.hid (HB13.out.trans HB34.out)
    have HK4 := Lib.hid (HK1.out.bl HB14.out)
    have s0 : w4.cell? ⟨sq, 0, none⟩ = some (.bool sb) := HS4.out.cell 0
    have s1 : w4.cell? ⟨sq, 1, none⟩ = some (.int .i64 sn) := HS4.out.cell 1
    have sl := HS4.out.lt
    clear HCs HBd HO3 HB13 HBw3 HB34 hd0 hd1 hbp1 hbs1 hbs
    cases sb with
    | true =>
      have HOu : Hid (Ch.outI ⟨t, n, s, ps⟩ xs S a x = (Ch.begs ⟨t, n, s, ps⟩ a sn, a)) := HOu0.out
      have k0 : w4.cell? ⟨w.heap.size, 0, none⟩ = some (.int .i64 t) := HK4.out.cell 0
      have k1 : w4.cell? ⟨w.heap.size, 1, none⟩ = some (.int .i64 n) := HK4.out.cell 1
      have k2 : w4.cell? ⟨w.heap.size, 2, none⟩ = some (.int .i64 s) := HK4.out.cell 2
      have k3 : w4.cell? ⟨w.heap.size, 3, none⟩ = some (.slice (some ⟨bp, op, none⟩) len c) := HK4.out.cell 3
      have kl := HK4.out.lt
      clear HOu0
      go_wp2_with fail
      refine (HOf.out sn w4 HBw4.out).mono ?_
      rintro e w5 ⟨A5, c5, rfl, hc5, hown5, hb5⟩
      have HO5 := Lib.hid ((HO4.out a).bl_ hb5)
      have hlst : ofK ps sn ps.length = Ch.ofN ps sn := rfl
      rw [hlst] at hown5 ⊢
      have HTake := Lib.hid (fun (k : Nat) => begs_take (g := ⟨t, n, s, ps⟩) (a := a) (n := sn) (k := k))
      have HBl : Hid ((Ch.begs ⟨t, n, s, ps⟩ a sn).length = (Ch.ofN ps sn).length) := by show _ = _; unfold Ch.begs; rw [List.length_map]
      have HNb0 : Hid (∀ b, (Value.slice A5 (ns (Ch.ofN ps sn)).length c5).ownBlock = some b → (Value.slice (some ⟨e1 + 1, 0, none⟩) 0 0).ownBlock ≠ some b) := fun b h1 h2 => by
        have h3 := (hown5.lt b h1).1
        have h4 := ((HO4.out a).rp.lt b h2).2
        omega
      have hl9 : (ns (Ch.ofN ps sn)).length ≤ 60 := by rw [ns_len]; have h1 := ofK_len ps sn ps.length; rw [hlst] at h1; have := HLn.out; omega
      have HN5 : Hid ((Ch.ofN ps sn).length = (ns (Ch.ofN ps sn)).length) := (ns_len _).symm
      have HL5 := Lib.hid hown5
      clear hown5 hb5 hlst k0 k1 k2 k3 kl s0 s1 sl HK4 HS4 HO4 hc5
      generalize (ns (Ch.ofN ps sn)).length = N5 at *
      generalize Ch.ofN ps sn = lst at *
      generalize hbg : Ch.begs ⟨t, n, s, ps⟩ a sn = bg at *
      clear hbg
      have HSz4 : Hid (∀ wx, Bl w1 wx → w1.heap.size ≤ wx.heap.size) := fun wx h => h.size
      go_wp2_with fail
      go_loopw [12, 13, 18] (fun vo vp i wr => ∃ (k c1 c2 : Nat) (A1 A2 : Option Addr), k ≤ N5 ∧ vo = .slice A1 k c1 ∧ vp = .slice A2 k c2 ∧ i = .int .i64 (k : Int) ∧ Hid (OutR w1 wr (.slice A1 k c1) (.slice A2 k c2) (bg.take k) a) ∧ Hid (wr.ownsRow w4.heap.size 3 1 (.slice A5 N5 c5) N5 (ins (ns lst))) ∧ Hid (∀ b, (Value.slice A5 N5 c5).ownBlock = some b → (Value.slice A2 k c2).ownBlock ≠ some b)) (fun _ _ i _ => N5 - (intOf i).toNat)
      case atStart => exact ⟨0, 0, 0, _, _, Nat.zero_le _, rfl, rfl, rfl, HO5.out, HL5.out, HNb0.out⟩
      case round =>
        obtain ⟨k, c1, c2, A1, A2, hk, rfl, rfl, rfl, HOc, HLr, HNb⟩ := hrel
        by_cases hlt : k < N5
        · have hik : (k : Int) < (N5 : Int) := by omega
          have hk0 : (0 : Int) ≤ (k : Int) := by omega
          have hkl : k < lst.length := by have := HN5.out; omega
          have hkn : k < (ns lst).length := by rw [ns_len]; exact hkl
          obtain ⟨bl, ol, hA5, hbl, q0⟩ := (Rd.own HLr.out).int hkn
          have e9 : (ns lst)[k] = (lst[k] : Int) := by simp [ns]
          rw [e9] at q0
          have HE := Lib.hid (HTake.out k hkl)
          subst hA5
          generalize lst[k] = jn at *
          clear hkn e9 hkl
          generalize hou : bg.take k = ou at *
          clear hou
          have HNn := Lib.hid (own_n HOc.out.ro)
          have hN9 : ou.length ≤ 13500 := by have := HNn.out; omega
          have HOx : Hid (OutR w1 (wr.alloc (.cells #[.int .i64 (jn : Int), .int .i64 0, .int .i64 (a : Int)] 42)) (.slice A1 k c1) (.slice A2 k c2) ou a) := HOc.out.bl_ ((Bl.refl wr).alloc _)
          have HCx : Hid (∀ j u, (imc (⟨jn, 0, a⟩ : Ch.Im))[j]? = some u → (wr.alloc (.cells #[.int .i64 (jn : Int), .int .i64 0, .int .i64 (a : Int)] 42)).cell? ((⟨wr.heap.size, 0, none⟩ : Addr).add j) = some u) := by
            show ∀ j u, _ → _
            intro j u hu
            exact cells_new wr #[.int .i64 (jn : Int), .int .i64 0, .int .i64 (a : Int)] 42 j u hu
          have HSx : Hid (w1.heap.size ≤ (wr.alloc (.cells #[.int .i64 (jn : Int), .int .i64 0, .int .i64 (a : Int)] 42)).heap.size) := HOx.out.b.size
          go_wp2_with (first
            | (at_builtin; refine wpList_append_own _ rfl (.tmp 122) (.tmp 129) 34 rfl w1.heap.size 42 i0 (.agg #[.int .i64 0, .int .i64 0, .int .i64 0]) 3 24 Try.underlying34 hi hz0 hz1 hz2 rfl (by decide) _ _ _ rfl HOx.out.ro ⟨wr.heap.size, 0, none⟩ 1 1 (imc (⟨jn, 0, a⟩ : Ch.Im)) rfl rfl HCx.out (imc_one _) (by simp only [maxLen]; omega) (by omega) HSx.out ?_; intro v6 w6 ho6 hg6 _; have HH6 := Lib.hid (HOx.out.put ho6 hg6); have HL6 := Lib.hid (own_bl (own_apt (own_bl HLr.out ((Bl.refl wr).alloc _)) HOx.out.ro (by decide) hg6) ((Bl.refl w6).alloc (.cells #[.int .i64 (a : Int)] 3))); obtain ⟨A6, c6, hv6, _⟩ := own_form ho6; rw [← HNn.out] at hv6; subst hv6; have HH := Lib.hid (HH6.out.bl_ ((Bl.refl w6).alloc (.cells #[.int .i64 (a : Int)] 3))); clear ho6 hg6)
            | (at_builtin; refine wpList_append_keep _ rfl (.tmp 131) (.tmp 133) 25 rfl w1.heap.size 3 j0 (.int .i64 0) 1 8 Try.underlying25 gi gz0 gz1 gz2 rfl (by decide) _ _ _ rfl HH.out.rp ⟨w6.heap.size, 0, none⟩ 1 [.int .i64 (a : Int)] rfl rfl (one_new w6 (.int .i64 (a : Int)) 3) (by simp [Value.oneCell']) (by simp only [maxLen]; omega) (by omega) HH.out.b.size ?_; intro v8 w8 ho8 hg8 hk8; have HX8 := Lib.hid (HH.out.put ho8 hg8); have HL8b := Lib.hid (own_two HL6.out HNb.out hg8 hk8); have HL8 := Lib.hid HL8b.out.1; have HNb8 : Hid (∀ b, (Value.slice (some ⟨bl, ol, none⟩) N5 c5).ownBlock = some b → v8.ownBlock ≠ some b) := HL8b.out.2; obtain ⟨A8, c8, hv8, _⟩ := own_form ho8; rw [← HNn.out] at hv8; subst hv8; clear ho8 hg8 hk8))
          go_roundw
          case rel => exact ⟨k + 1, c6, c8, A6, A8, by omega, rfl, rfl, by go_num, by rw [HE.out]; exact HX8.out, HL8.out, HNb8.out⟩
          case measure => simp [intOf]; omega
        · have hik : ¬ (k : Int) < (N5 : Int) := by omega
          have hkl : bg.take k = bg := List.take_of_length_le (by have := HBl.out; have := HN5.out; omega)
          rw [hkl] at HOc
          obtain ⟨hN, hr1, hr2, hb9⟩ := HOc.out.done
          have HNn := Lib.hid hN
          have HR1 := Lib.hid hr1
          have HR2 := Lib.hid hr2
          have HB9 := Lib.hid (HB1.out.trans hb9)
          clear hr1 hr2 hb9 hkl HOc hN hlt hk
          go_wp2_with fail
          go_ret2
          refine ⟨A1, c1, A2, c2, ?_, ?_, ?_, HB9.out⟩ <;> rw [HOu.out]
          · show _ = Ending.returned (.tuple #[.slice A1 bg.length c1, .slice A2 bg.length c2]); rw [← HNn.out]; rfl
          · exact HR1.out
          · exact HR2.out
    | false =>
      have HX4 := Lib.hid (HX1.out.bl HB14.out)
      by_cases hal : a < lw
      · have hax : a < xs.length := by have := HLw.out; omega
        have hai : (a : Int) < (lw : Int) := by omega
        have ha0 : (0 : Int) ≤ (a : Int) := by omega
        have dk : decide ((a : Int) < (lw : Int)) = true := decide_eq_true hai
        obtain ⟨bw, ow, rfl, hbw, q0⟩ := (HRw.out w4 HBw4.out).int hax
        have HOu1 : Hid (Ch.outI ⟨t, n, s, ps⟩ xs S a x = if xs[a] = sn then ([Ch.behind x], a + 1) else ([], a)) := by
          show _ = _
          rw [HOu0.out, List.getElem?_eq_getElem hax]
          by_cases e : xs[a] = sn <;> simp [e]
        clear HOu0
        generalize xs[a] = tk at *
        clear hax
        by_cases e : tk = sn
        · subst e
          have HOu : Hid (Ch.outI ⟨t, n, s, ps⟩ xs S a x = ([Ch.behind x], a + 1)) := by show _ = _; rw [HOu1.out, if_pos rfl]
          clear HOu1
          go_upto_region 20 with fail
          go_quiet (fail)
          have HO4b := Lib.hid ((HO4.out (a + 1)).bl_ ((Bl.refl w4).drewN nq))
          have HX4b : Hid (Bk (w4.drewN nq) (w.heap.size + 1) 42 #[.int .i64 (x.prod : Int), .int .i64 (x.dot : Int), .int .i64 (x.frm : Int)]) := HX4.out
          generalize w4.drewN nq = wc at *
          have x0 : wc.cell? ⟨w.heap.size + 1, 0, none⟩ = some (.int .i64 (x.prod : Int)) := HX4b.out.cell 0
          have x1 : wc.cell? ⟨w.heap.size + 1, 1, none⟩ = some (.int .i64 (x.dot : Int)) := HX4b.out.cell 1
          have x2 : wc.cell? ⟨w.heap.size + 1, 2, none⟩ = some (.int .i64 (x.frm : Int)) := HX4b.out.cell 2
          have xl := HX4b.out.lt
          have hyd : IntKind.i64.wrap ((x.dot : Int) + 1) = (x.dot : Int) + 1 := by rw [IntKind.wrap_i64]; omega
          have hya : IntKind.i64.wrap ((a : Int) + 1) = (a : Int) + 1 := by rw [IntKind.wrap_i64]; omega
          have HOc := HO4b
          clear s0 s1 sl q0 HS4 HK4 HO4 HX4
          have HNn := Lib.hid (own_n HOc.out.ro)
          have hN9 : ([] : List Ch.Im).length ≤ 13500 := by have := HNn.out; omega
          have HOx : Hid (OutR w1 (wc.alloc (.cells #[.int .i64 (x.prod : Int), .int .i64 ((x.dot : Int) + 1), .int .i64 (x.frm : Int)] 42)) (.slice (some ⟨e1, 0, none⟩) 0 0) (.slice (some ⟨e1 + 1, 0, none⟩) 0 0) ([] : List Ch.Im) (a + 1)) := HOc.out.bl_ ((Bl.refl wc).alloc _)
          have HCx : Hid (∀ j u, (imc (Ch.behind x))[j]? = some u → (wc.alloc (.cells #[.int .i64 (x.prod : Int), .int .i64 ((x.dot : Int) + 1), .int .i64 (x.frm : Int)] 42)).cell? ((⟨wc.heap.size, 0, none⟩ : Addr).add j) = some u) := by
            show ∀ j u, _ → _
            intro j u hu
            exact cells_new wc #[.int .i64 (x.prod : Int), .int .i64 ((x.dot : Int) + 1), .int .i64 (x.frm : Int)] 42 j u hu
          have HSx : Hid (w1.heap.size ≤ (wc.alloc (.cells #[.int .i64 (x.prod : Int), .int .i64 ((x.dot : Int) + 1), .int .i64 (x.frm : Int)] 42)).heap.size) := HOx.out.b.size
          go_wp2_with (first
            | (at_builtin; refine wpList_append_own _ rfl (.tmp 148) (.tmp 157) 34 rfl w1.heap.size 42 i0 (.agg #[.int .i64 0, .int .i64 0, .int .i64 0]) 3 24 Try.underlying34 hi hz0 hz1 hz2 rfl (by decide) _ _ _ rfl HOx.out.ro ⟨wc.heap.size, 0, none⟩ 1 1 (imc (Ch.behind x)) rfl rfl HCx.out (imc_one _) (by simp only [maxLen]; omega) (by omega) HSx.out ?_; intro v6 w6 ho6 hg6 _; have HH6 := Lib.hid (HOx.out.put ho6 hg6); obtain ⟨A6, c6, hv6, _⟩ := own_form ho6; rw [← HNn.out] at hv6; subst hv6; have HH := Lib.hid (HH6.out.bl_ ((Bl.refl w6).alloc (.cells #[.int .i64 ((a : Int) + 1)] 3))); clear ho6 hg6)
            | (at_builtin; refine wpList_append_keep _ rfl (.tmp 159) (.tmp 162) 25 rfl w1.heap.size 3 j0 (.int .i64 0) 1 8 Try.underlying25 gi gz0 gz1 gz2 rfl (by decide) _ _ _ rfl HH.out.rp ⟨w6.heap.size, 0, none⟩ 1 [.int .i64 ((a : Int) + 1)] rfl rfl (one_new w6 (.int .i64 ((a : Int) + 1)) 3) (by simp [Value.oneCell']) (by simp only [maxLen]; omega) (by omega) HH.out.b.size ?_; intro v8 w8 ho8 hg8 hk8; have HX8 := Lib.hid (HH.out.put ho8 hg8); obtain ⟨A8, c8, hv8, _⟩ := own_form ho8; rw [← HNn.out] at hv8; subst hv8; clear ho8 hg8 hk8))
          obtain ⟨hN, hr1, hr2, hb9⟩ := HX8.out.done
          have HR1 := Lib.hid hr1
          have HR2 := Lib.hid hr2
          have HB9 := Lib.hid (HB1.out.trans hb9)
          clear hr1 hr2 hb9 hN
          go_ret2
          refine ⟨A6, c6, A8, c8, ?_, ?_, ?_, HB9.out⟩ <;> rw [HOu.out]
          · rfl
          · exact HR1.out
          · exact HR2.out
        · have HOu : Hid (Ch.outI ⟨t, n, s, ps⟩ xs S a x = ([], a)) := by show _ = _; rw [HOu1.out, if_neg e]
          have he : (tk == sn) = false := by rw [beq_eq_false_iff_ne]; exact e
          clear HOu1 e
          obtain ⟨hN, hr1, hr2, hb9⟩ := (HO4.out a).done
          have HR1 := Lib.hid hr1
          have HR2 := Lib.hid hr2
          have HB9 := Lib.hid (HB1.out.trans hb9)
          clear hr1 hr2 hb9 hN
          go_upto_region 20 with fail
          go_quiet (fail)
          go_wp2_with fail
          go_ret2
          refine ⟨some ⟨e1, 0, none⟩, 0, some ⟨e1 + 1, 0, none⟩, 0, ?_, ?_, ?_, HB9.out.drewN _⟩ <;> rw [HOu.out]
          · rfl
          · exact HR1.out
          · exact HR2.out
      · have HOu : Hid (Ch.outI ⟨t, n, s, ps⟩ xs S a x = ([], a)) := by
          show _ = _
          rw [HOu0.out, List.getElem?_eq_none (by have := HLw.out; omega)]
          simp
        have hai : ¬ (a : Int) < (lw : Int) := by omega
        have dk : decide ((a : Int) < (lw : Int)) = false := decide_eq_false hai
        clear HOu0
        obtain ⟨hN, hr1, hr2, hb9⟩ := (HO4.out a).done
        have HR1 := Lib.hid hr1
        have HR2 := Lib.hid hr2
        have HB9 := Lib.hid (HB1.out.trans hb9)
        clear hr1 hr2 hb9 hN
        go_upto_region 20 with fail
        go_quiet (fail)
        go_wp2_with fail
        go_ret2
        refine ⟨some ⟨e1, 0, none⟩, 0, some ⟨e1 + 1, 0, none⟩, 0, ?_, ?_, ?_, HB9.out.drewN _⟩ <;> rw [HOu.out]
        · rfl
        · exact HR1.out
        · exact HR2.out
end Go.Proofs.Ytdfhhbncmdpoeaa
