/- The reference's less, Whole and add: an item comes into a set in order, once (made by tools/genradd.py). -/
import Derived.Test.YtckckejgocbkkaaChIns
import Derived.Test.YtckckejgocbkkaaChA
import Derived.Test.YtckckejgocbkkaaFoApp
import Derived.Test.YtckckejgocbkkaaPrC
import Derived.Test.YtckckejgocbkkaaFactS
import Derived.Deep.RegionHeld3
import Derived.Deep.DeepCutAuto
import Derived.Deep.CutRange
import Derived.BigQuiet
import Derived.Laws.StructEq
import Derived.OwnWalk
namespace Go.Proofs.Ytckckejgocbkkaa
open Go.RowKit

theorem icells {w : World} {g : Nat} {x : Ch.Im} (h : Bk w g 42 #[.int .i64 (x.prod : Int), .int .i64 (x.dot : Int), .int .i64 (x.frm : Int)]) : w.cell? ⟨g, 0, none⟩ = some (.int .i64 (x.prod : Int)) ∧ w.cell? ⟨g, 1, none⟩ = some (.int .i64 (x.dot : Int)) ∧ w.cell? ⟨g, 2, none⟩ = some (.int .i64 (x.frm : Int)) := ⟨h.cell 0, h.cell 1, h.cell 2⟩
theorem rd_blockI {w : World} {g : Nat} {x : Ch.Im} {t : TypeId} (h : Bk w g t #[.int .i64 (x.prod : Int), .int .i64 (x.dot : Int), .int .i64 (x.frm : Int)]) : Rd w w.heap.size (some ⟨g, 0, none⟩) (imRow [x]) := fun _ => ⟨g, 0, rfl, h.lt, fun j u hu => by
  have e : imRow [x] = (#[.int .i64 (x.prod : Int), .int .i64 (x.dot : Int), .int .i64 (x.frm : Int)] : Array Value).toList := rfl
  rw [Nat.zero_add, h.cell j, ← Array.getElem?_toList, ← e]
  exact hu⟩
theorem own_emptyN (w : World) (base : Nat) (e : TypeId) (size : Nat) (h : base ≤ w.heap.size) : (w.alloc (.cells #[] e)).ownsRow base e size (.slice (some ⟨w.heap.size, 0, none⟩) 0 0) 0 [] :=
  World.ownsRow_lit (base := base) (e := e) (size := size) w #[] 0 h (by simp [maxLen]) (by simp)
theorem own_emptyM (w : World) (o : Obj) (base : Nat) (e : TypeId) (size : Nat) (h : base ≤ w.heap.size) : ((w.alloc o).alloc (.cells #[] e)).ownsRow base e size (.slice (some ⟨w.heap.size + 1, 0, none⟩) 0 0) 0 [] := by
  have h1 := own_emptyN (w.alloc o) base e size (by rw [World.size_alloc]; omega)
  rw [World.size_alloc] at h1
  exact h1
theorem own_drewI {w : World} {base e n size : Nat} {v : Value} {xs : List Value} (h : w.ownsRow base e size v n xs) : w.drew.ownsRow base e size v n xs := h
theorem own_allocI {w : World} {base e n size : Nat} {v : Value} {xs : List Value} (h : w.ownsRow base e size v n xs) (o : Obj) : (w.alloc o).ownsRow base e size v n xs := own_bl h ((Bl.refl w).alloc o)
theorem im_size : (Try.prog.info? 42).map (·.size) = some 3 := by kernel_rfl
theorem im_info : (Try.prog.info? 42).map (fun i => (i.zero, i.size, i.bytes)) = some (some (.agg #[.int .i64 0, .int .i64 0, .int .i64 0]), 3, 24) := by kernel_rfl
theorem Rd.im_cut {w : World} {B : Nat} {A : Option Addr} {l : List Ch.Im} (h : Rd w B A (imRow l)) {k cap : Nat} (hc : l.length ≤ cap) : Rd w B (if cap = k then A else A.map (·.add (k * 3))) (imRow (l.drop k)) := fun hn => by
  rw [imRow_len, List.length_drop] at hn
  obtain ⟨b, off, e, hb, hcell⟩ := h (by rw [imRow_len]; omega)
  rw [if_neg (by omega)]
  refine ⟨b, off + k * 3, ?_, hb, fun j u hu => ?_⟩
  · subst e
    simp only [Option.map_some, Addr.add]
    split
    · rename_i h0; rw [h0]; rfl
    · rfl
  · rw [Nat.add_assoc]
    refine hcell (k * 3 + j) u ?_
    have e2 : l = l.take k ++ l.drop k := (List.take_append_drop k l).symm
    rw [e2, imRow_append, List.getElem?_append_right (by rw [imRow_len, List.length_take]; omega), imRow_len, List.length_take, show k * 3 + j - min k l.length * 3 = j by omega]
    exact hu
theorem Rd.im_take {w : World} {B : Nat} {A : Option Addr} {l : List Ch.Im} (h : Rd w B A (imRow l)) (k : Nat) : Rd w B A (imRow (l.take k)) := fun hn => by
  rw [imRow_len, List.length_take] at hn
  obtain ⟨b, off, e, hb, hcell⟩ := h (by rw [imRow_len]; omega)
  refine ⟨b, off, e, hb, fun j u hu => hcell j u ?_⟩
  have e2 : l = l.take k ++ l.drop k := (List.take_append_drop k l).symm
  have hj : j < (imRow (l.take k)).length := by
    rcases Nat.lt_or_ge j (imRow (l.take k)).length with h | h
    · exact h
    · rw [List.getElem?_eq_none h] at hu; cases hu
  rw [e2, imRow_append, List.getElem?_append_left hj]
  exact hu

set_option maxRecDepth 100000 in
set_option maxHeartbeats 4000000 in
theorem rless_any (x y : Ch.Im) (W : World) : Calls Try.prog 44 #[.agg #[.int .i64 (x.prod : Int), .int .i64 (x.dot : Int), .int .i64 (x.frm : Int)], .agg #[.int .i64 (y.prod : Int), .int .i64 (y.dot : Int), .int .i64 (y.frm : Int)]] W fun e w' => e = .returned (.bool (decide (Ch.lt x y))) ∧ Bl W w' := by
  have HX : Hid (Bk ((W.alloc (.cells #[.int .i64 (x.prod : Int), .int .i64 (x.dot : Int), .int .i64 (x.frm : Int)] 42)).alloc (.cells #[.int .i64 (y.prod : Int), .int .i64 (y.dot : Int), .int .i64 (y.frm : Int)] 42)) W.heap.size 42 #[.int .i64 (x.prod : Int), .int .i64 (x.dot : Int), .int .i64 (x.frm : Int)]) := (Bk.new W _ _).alloc _
  have HY : Hid (Bk ((W.alloc (.cells #[.int .i64 (x.prod : Int), .int .i64 (x.dot : Int), .int .i64 (x.frm : Int)] 42)).alloc (.cells #[.int .i64 (y.prod : Int), .int .i64 (y.dot : Int), .int .i64 (y.frm : Int)] 42)) (W.heap.size + 1) 42 #[.int .i64 (y.prod : Int), .int .i64 (y.dot : Int), .int .i64 (y.frm : Int)]) := by
    have h := Bk.new (W.alloc (.cells #[.int .i64 (x.prod : Int), .int .i64 (x.dot : Int), .int .i64 (x.frm : Int)] 42)) 42 #[.int .i64 (y.prod : Int), .int .i64 (y.dot : Int), .int .i64 (y.frm : Int)]
    rw [World.size_alloc] at h
    exact h
  have HB : Hid (Bl W ((W.alloc (.cells #[.int .i64 (x.prod : Int), .int .i64 (x.dot : Int), .int .i64 (x.frm : Int)] 42)).alloc (.cells #[.int .i64 (y.prod : Int), .int .i64 (y.dot : Int), .int .i64 (y.frm : Int)] 42))) := ((Bl.refl W).alloc _).alloc _
  have key : ((x.prod : Int) ≠ (y.prod : Int) ∧ decide (Ch.lt x y) = decide ((x.prod : Int) < (y.prod : Int))) ∨ ((x.prod : Int) = (y.prod : Int) ∧ (x.dot : Int) ≠ (y.dot : Int) ∧ decide (Ch.lt x y) = decide ((x.dot : Int) < (y.dot : Int))) ∨
      ((x.prod : Int) = (y.prod : Int) ∧ (x.dot : Int) = (y.dot : Int) ∧ decide (Ch.lt x y) = decide ((x.frm : Int) < (y.frm : Int))) := by
    by_cases h1 : x.prod = y.prod
    · by_cases h2 : x.dot = y.dot
      · exact .inr (.inr ⟨by omega, by omega, decide_eq_decide.2 (by unfold Ch.lt; omega)⟩)
      · exact .inr (.inl ⟨by omega, by omega, decide_eq_decide.2 (by unfold Ch.lt; omega)⟩)
    · exact .inl ⟨by omega, decide_eq_decide.2 (by unfold Ch.lt; omega)⟩
  generalize decide (Ch.lt x y) = q at *
  generalize (x.prod : Int) = xp at *
  generalize (x.dot : Int) = xd at *
  generalize (x.frm : Int) = xf at *
  generalize (y.prod : Int) = yp at *
  generalize (y.dot : Int) = yd at *
  generalize (y.frm : Int) = yf at *
  go_enter Try.func44, Try.ntmps44
  go_upto_region 1 with fail
  generalize (W.alloc (.cells #[.int .i64 xp, .int .i64 xd, .int .i64 xf] 42)).alloc (.cells #[.int .i64 yp, .int .i64 yd, .int .i64 yf] 42) = w1 at *
  have x0 := HX.out.cell 0
  have x1 := HX.out.cell 1
  have x2 := HX.out.cell 2
  have y0 := HY.out.cell 0
  have y1 := HY.out.cell 1
  have y2 := HY.out.cell 2
  rcases key with ⟨h1, hq⟩ | ⟨h1, h2, hq⟩ | ⟨h1, h2, hq⟩
  · have q1 : (xp != yp) = true := by rw [bne_iff_ne]; exact h1
    have HQ := Lib.hid hq
    clear h1 hq
    go_wp2_with fail
    go_ret
    exact ⟨by rw [HQ.out]; rfl, HB.out⟩
  · have q1 : (xp != yp) = false := by rw [h1]; simp
    have q2 : (xd != yd) = true := by rw [bne_iff_ne]; exact h2
    have HQ := Lib.hid hq
    clear h1 h2 hq
    go_wp2_with fail
    go_ret
    exact ⟨by rw [HQ.out]; rfl, HB.out⟩
  · have q1 : (xp != yp) = false := by rw [h1]; simp
    have q2 : (xd != yd) = false := by rw [h2]; simp
    have HQ := Lib.hid hq
    clear h1 h2 hq
    go_wp2_with fail
    go_ret
    exact ⟨by rw [HQ.out]; rfl, HB.out⟩

set_option maxRecDepth 100000 in
set_option maxHeartbeats 4000000 in
theorem rwhole_any (t n s : Int) (A : Option Addr) (len c : Nat) (ps : List Gr.Pr) (i d : Nat) (fr : Int) (w : World) (B : Nat) (hlen : len = ps.length) (hr : Prs w B A ps) (hB : B ≤ w.heap.size) (hi : i < ps.length) :
    Calls Try.prog 31 #[.agg #[.int .i64 t, .int .i64 n, .int .i64 s, .slice A len c], .agg #[.int .i64 (i : Int), .int .i64 (d : Int), .int .i64 fr]] w fun e w' => e = .returned (.bool (decide (d = ps[i].right.length))) ∧ Bl w w' := by
  have HK1 : Hid (Bk ((w.alloc (.cells #[.int .i64 t, .int .i64 n, .int .i64 s, .slice A len c] 24)).alloc (.cells #[.int .i64 (i : Int), .int .i64 (d : Int), .int .i64 fr] 42)) w.heap.size 24 #[.int .i64 t, .int .i64 n, .int .i64 s, .slice A len c]) := (Bk.new w _ _).alloc _
  have HK2 : Hid (Bk ((w.alloc (.cells #[.int .i64 t, .int .i64 n, .int .i64 s, .slice A len c] 24)).alloc (.cells #[.int .i64 (i : Int), .int .i64 (d : Int), .int .i64 fr] 42)) (w.heap.size + 1) 42 #[.int .i64 (i : Int), .int .i64 (d : Int), .int .i64 fr]) := by
    have h := Bk.new (w.alloc (.cells #[.int .i64 t, .int .i64 n, .int .i64 s, .slice A len c] 24)) 42 #[.int .i64 (i : Int), .int .i64 (d : Int), .int .i64 fr]
    rw [World.size_alloc] at h
    exact h
  have HB1 : Hid (Bl w ((w.alloc (.cells #[.int .i64 t, .int .i64 n, .int .i64 s, .slice A len c] 24)).alloc (.cells #[.int .i64 (i : Int), .int .i64 (d : Int), .int .i64 fr] 42))) := ((Bl.refl w).alloc _).alloc _
  obtain ⟨b, off, Ax, cx, rfl, hbB, hrx, hc0, hc1⟩ := (hr.bl hB HB1.out).at_ hi
  have hbl : b < ((w.alloc (.cells #[.int .i64 t, .int .i64 n, .int .i64 s, .slice (some ⟨b, off, none⟩) len c] 24)).alloc (.cells #[.int .i64 (i : Int), .int .i64 (d : Int), .int .i64 fr] 42)).heap.size := Nat.lt_of_lt_of_le hbB (Nat.le_trans hB HB1.out.size)
  have i0 : (0 : Int) ≤ (i : Int) := by omega
  have i1 : (i : Int) < (len : Int) := by omega
  have HQ : Hid (((d : Int) == (ps[i].right.length : Int)) = decide (d = ps[i].right.length)) := by
    show _ = _
    by_cases e : d = ps[i].right.length
    · rw [decide_eq_true e, beq_iff_eq]; omega
    · rw [decide_eq_false e, beq_eq_false_iff_ne]; omega
  clear hr hrx hc0 hlen
  generalize decide (d = ps[i].right.length) = q at *
  generalize ps[i].right.length = rl at *
  go_enter Try.func31, Try.ntmps31
  go_upto_region 1 with fail
  generalize (w.alloc (.cells #[.int .i64 t, .int .i64 n, .int .i64 s, .slice (some ⟨b, off, none⟩) len c] 24)).alloc (.cells #[.int .i64 (i : Int), .int .i64 (d : Int), .int .i64 fr] 42) = w1 at *
  have k3 : w1.cell? ⟨w.heap.size, 3, none⟩ = some (.slice (some ⟨b, off, none⟩) len c) := HK1.out.cell 3
  have j0 : w1.cell? ⟨w.heap.size + 1, 0, none⟩ = some (.int .i64 (i : Int)) := HK2.out.cell 0
  have j1 : w1.cell? ⟨w.heap.size + 1, 1, none⟩ = some (.int .i64 (d : Int)) := HK2.out.cell 1
  have l0 := HK1.out.lt
  have l1 := HK2.out.lt
  have hq := HQ.out
  go_quiet (fail)
  go_wp2_with fail
  go_ret
  exact ⟨by first | rfl | rw [hq], HB1.out.drewN _⟩

/-- What add leaves. -/
def AddP (l : List Ch.Im) (x : Ch.Im) (w : World) (e : Ending) (w' : World) : Prop :=
  ∃ A' c', e = .returned (.tuple #[.slice A' (Ch.insI x l).length c', .bool (Ch.newI x l)]) ∧ (Ch.insI x l).length ≤ c' ∧ Rd w' w'.heap.size A' (imRow (Ch.insI x l)) ∧ Bl w w'
set_option maxRecDepth 100000 in
set_option maxHeartbeats 8000000 in
theorem radd_any (A : Option Addr) (n c : Nat) (l : List Ch.Im) (x : Ch.Im) (w : World) (B : Nat) (hn : n = l.length) (hm : n ≤ 1000000) (hcap : n ≤ c) (hr : Rd w B A (imRow l)) (hB : B ≤ w.heap.size) :
    Calls Try.prog 25 #[.slice A n c, .agg #[.int .i64 (x.prod : Int), .int .i64 (x.dot : Int), .int .i64 (x.frm : Int)]] w (AddP l x w) := by
  obtain ⟨i0, hi, hz0, hz1, hz2⟩ := info_parts im_info
  have HX0 : Hid (Bk (w.alloc (.cells #[.int .i64 (x.prod : Int), .int .i64 (x.dot : Int), .int .i64 (x.frm : Int)] 42)) w.heap.size 42 #[.int .i64 (x.prod : Int), .int .i64 (x.dot : Int), .int .i64 (x.frm : Int)]) := Bk.new w _ _
  have HB0 : Hid (Bl w (w.alloc (.cells #[.int .i64 (x.prod : Int), .int .i64 (x.dot : Int), .int .i64 (x.frm : Int)] 42))) := (Bl.refl w).alloc _
  have HN := Lib.hid hn
  have HR := Lib.hid (fun (wx : World) (hb : Bl w wx) => hr.bl hB hb)
  have hB2 := Lib.hid hB
  clear hn hr hB
  go_enter Try.func25, Try.ntmps25
  go_wp2_with fail
  generalize w.alloc (.cells #[.int .i64 (x.prod : Int), .int .i64 (x.dot : Int), .int .i64 (x.frm : Int)] 42) = w1 at *
  go_loopw [6] (fun i wr => ∃ k : Nat, k ≤ n ∧ i = .int .i64 k ∧ Hid (Ch.Looked x l k) ∧ Hid (Bk wr w.heap.size 42 #[.int .i64 (x.prod : Int), .int .i64 (x.dot : Int), .int .i64 (x.frm : Int)]) ∧ Hid (Bl w wr)) (fun i _ => n - (intOf i).toNat)
  case atStart => exact ⟨0, Nat.zero_le _, rfl, Ch.looked_zero _ _, HX0.out, HB0.out⟩
  case round =>
    obtain ⟨k, hk, rfl, HLk, HK, HB⟩ := hrel
    by_cases hlt : k < n
    · have hlt2 : k < l.length := by have := HN.out; omega
      have hik : (k : Int) < (n : Int) := by omega
      have hk0 : (0 : Int) ≤ (k : Int) := by omega
      have dk : decide ((k : Int) < (n : Int)) = true := decide_eq_true hik
      obtain ⟨b, off, rfl, hb, c0, c1, c2⟩ := (HR.out wr HB.out).item hlt2
      have hbl : b < wr.heap.size := Nat.lt_of_lt_of_le hb (Nat.le_trans hB2.out HB.out.size)
      have HLs := Lib.hid (rless_any l[k] x)
      have HOn := Lib.hid (HLk.out.on hlt2)
      have HSame := Lib.hid (HLk.out.same hlt2)
      have HNew : Hid (¬ Ch.lt l[k] x → l[k] ≠ x → Ch.insI x l = l.take k ++ [x] ++ l.drop k ∧ Ch.newI x l = true) := fun h1 h2 => HLk.out.new fun _ => ⟨h1, h2⟩
      generalize l[k] = y at *
      clear hlt2
      have HCy : Hid (∀ wx, Bl wr wx → wx.cell? ⟨b, off + k * 3, none⟩ = some (.int .i64 (y.prod : Int)) ∧ wx.cell? ⟨b, off + k * 3 + 1, none⟩ = some (.int .i64 (y.dot : Int)) ∧ wx.cell? ⟨b, off + k * 3 + 2, none⟩ = some (.int .i64 (y.frm : Int)) ∧ wx.cell? ⟨w.heap.size, 0, none⟩ = some (.int .i64 (x.prod : Int)) ∧ wx.cell? ⟨w.heap.size, 1, none⟩ = some (.int .i64 (x.dot : Int)) ∧ wx.cell? ⟨w.heap.size, 2, none⟩ = some (.int .i64 (x.frm : Int)) ∧ b < wx.heap.size) := fun wx hbx => by
        have hx := HK.out.bl hbx
        exact ⟨(Below.cell hbx (p := ⟨b, off + k * 3, none⟩) hbl).trans c0, (Below.cell hbx (p := ⟨b, off + k * 3 + 1, none⟩) hbl).trans c1, (Below.cell hbx (p := ⟨b, off + k * 3 + 2, none⟩) hbl).trans c2, hx.cell 0, hx.cell 1, hx.cell 2, Nat.lt_of_lt_of_le hbl hbx.size⟩
      have HBd : Hid (Bl wr wr.drew) := (Bl.refl wr).drew
      have tk1 : True := trivial
      clear c0 c1 c2
      have hQ : Hid (decide (Ch.lt y x) = decide (Ch.lt y x)) := rfl
      generalize hq : decide (Ch.lt y x) = q at HLs
      clear hQ
      have HQ := Lib.hid hq
      clear hq
      go_upto_region 2 with fail
      go_region_held3 (fun wx => wx.cell? ⟨b, off + k * 3, none⟩ = some (.int .i64 (y.prod : Int)) ∧ wx.cell? ⟨b, off + k * 3 + 1, none⟩ = some (.int .i64 (y.dot : Int)) ∧ wx.cell? ⟨b, off + k * 3 + 2, none⟩ = some (.int .i64 (y.frm : Int)) ∧ wx.cell? ⟨w.heap.size, 0, none⟩ = some (.int .i64 (x.prod : Int)) ∧ wx.cell? ⟨w.heap.size, 1, none⟩ = some (.int .i64 (x.dot : Int)) ∧ wx.cell? ⟨w.heap.size, 2, none⟩ = some (.int .i64 (x.frm : Int)) ∧ b < wx.heap.size)
        (first | exact HCy.out _ HBd.out | exact HCy.out _ HB5.out) (first
        | (go_at_call 44; have _t := tk1; ((with_reducible refine (HLs.out _).mono ?_); rintro e w5 ⟨rfl, hb5⟩; have HB5 : Hid (Bl wr w5) := Bl.undrew hb5; clear tk1 hb5))
        | fail)
      have HX5 := Lib.hid (HK.out.bl HB5.out)
      have HBw5 := Lib.hid (HB.out.trans HB5.out)
      cases q with
      | true =>
        have hl := of_decide_eq_true HQ.out
        have HL2 := Lib.hid (HOn.out hl)
        clear hl
        go_wp2_with fail
        go_roundw
        case rel => exact ⟨k + 1, by omega, by go_num, HL2.out, HX5.out, HBw5.out⟩
        case measure => simp [intOf]; omega
      | false =>
        have hl := of_decide_eq_false HQ.out
        obtain ⟨c0, c1, c2, x0, x1, x2, hbl5⟩ := HCy.out w5 HB5.out
        obtain ⟨yp, yd, yf⟩ := y
        obtain ⟨xp, xd, xf⟩ := x
        simp only at c0 c1 c2 x0 x1 x2
        by_cases e : (⟨yp, yd, yf⟩ : Ch.Im) = ⟨xp, xd, xf⟩
        · have HSm := Lib.hid (HSame.out e)
          injection e with e1 e2 e3
          subst e1 e2 e3
          clear hl
          go_upto_region 4 with fail
          go_quiet (fail)
          go_wp2_with fail
          go_ret2
          exact ⟨_, _, by rw [HSm.out.1, HSm.out.2, ← HN.out]; rfl, by rw [HSm.out.1, ← HN.out]; exact hcap, by rw [HSm.out.1]; exact ((HR.out _ (HBw5.out.drewN _)).more (Nat.le_trans hB2.out HBw5.out.size)), HBw5.out.drewN _⟩
        · have HNw := Lib.hid (HNew.out hl e)
          clear hl
          go_upto_region 4 with fail
          go_cut [32] from 21 to 32 (fun v wx => v = .bool false ∧ Hid (Bl w5 wx))
          case first =>
            by_cases e1 : yp = xp
            · subst e1
              by_cases e2 : yd = xd
              · subst e2
                have q3 : ((yf : Int) == (xf : Int)) = false := by rw [beq_eq_false_iff_ne]; intro h; exact e (by rw [show yf = xf by omega])
                clear e
                go_quiet (fail)
                go_wp2_with fail
                go_meet
                exact ⟨rfl, (Bl.refl w5).drewN _⟩
              · have q2 : ((yd : Int) == (xd : Int)) = false := by rw [beq_eq_false_iff_ne]; omega
                clear e
                go_quiet (fail)
                go_wp2_with fail
                go_meet
                exact ⟨rfl, (Bl.refl w5).drewN _⟩
            · have q1 : ((yp : Int) == (xp : Int)) = false := by rw [beq_eq_false_iff_ne]; omega
              clear e
              go_quiet (fail)
              go_wp2_with fail
              go_meet
              exact ⟨rfl, (Bl.refl w5).drewN _⟩
          case rest =>
            obtain ⟨rfl, HBc⟩ := hcut
            clear c0 c1 c2 x0 x1 x2 hbl5 e hbl hb hlt dk hik
            have HBr := Lib.hid (HBw5.out.trans HBc.out)
            have HKr := Lib.hid (HX5.out.bl HBc.out)
            clear HB5 HX5 HBw5 HBc HB HK HBd HCy HLs HOn HSame HNew HLk HQ
            have hk9 : k ≤ n := by omega
            have HXw : Hid (∀ w', Bl wc w' → Rd w' wc.heap.size (some ⟨b, off, none⟩) (imRow (l.take k))) := fun w' hb => (((HR.out _ HBr.out).more (Nat.le_trans hB2.out HBr.out.size)).im_take k).bl (Nat.le_refl _) hb
            have HYw : Hid (∀ w', Bl wc w' → Rd w' wc.heap.size (if c = k then (some ⟨b, off, none⟩) else ((some ⟨b, off, none⟩) : Option Addr).map (·.add (k * 3))) (imRow (l.drop k))) := fun w' hb => (((HR.out _ HBr.out).more (Nat.le_trans hB2.out HBr.out.size)).im_cut (k := k) (cap := c) (by have := HN.out; omega)).bl (Nat.le_refl _) hb
            have hsl1 := fun (wx : World) => run_slice_head (P := Try.prog) (t := 26) (e := 42) (size := 3) Try.underlying26 im_size (some ⟨b, off, none⟩) n c k (k : Int) rfl (by omega) wx
            have hsl2 := fun (wx : World) => run_slice_tail (P := Try.prog) (t := 26) (e := 42) (size := 3) Try.underlying26 im_size (some ⟨b, off, none⟩) n c k (k : Int) rfl (by omega) wx
            generalize (if c = k then (some ⟨b, off, none⟩) else ((some ⟨b, off, none⟩) : Option Addr).map (·.add (k * 3))) = Ay at HYw hsl2
            have HLt : Hid ((l.take k).length = k) := by show _ = _; rw [List.length_take]; have := HN.out; omega
            have HLd : Hid ((l.drop k).length = n - k) := by show _ = _; rw [List.length_drop]; have := HN.out; omega
            have HQ2 : Hid (∀ o, wc.heap.size ≤ (wc.alloc o).drew.heap.size) := fun o => by show _ ≤ (wc.alloc o).heap.size; rw [World.size_alloc]; omega
            have HQ3 : Hid (∀ o o', wc.heap.size ≤ ((wc.alloc o).alloc o').drew.heap.size) := fun o o' => by show _ ≤ ((wc.alloc o).alloc o').heap.size; rw [World.size_alloc, World.size_alloc]; omega
            have HKc := Lib.hid HKr.out
            have tk1 : True := trivial
            have tk2 : True := trivial
            have tk3 : True := trivial
            go_upto_region 6 with fail
            go_region_held3 (fun wx => wx.cell? ⟨w.heap.size, 0, none⟩ = some (.int .i64 (xp : Int)) ∧ wx.cell? ⟨w.heap.size, 1, none⟩ = some (.int .i64 (xd : Int)) ∧ wx.cell? ⟨w.heap.size, 2, none⟩ = some (.int .i64 (xf : Int))) (first | with_reducible exact icells HKc.out | with_reducible exact icells HKc.out.drew | with_reducible exact icells (HKc.out.alloc _) | with_reducible exact icells (HKc.out.alloc _).drew | with_reducible exact icells ((HKc.out.alloc _).alloc _).drew) (first
              | ((refine step_append_rdN rfl (.tmp 34) (.tmp 37) 26 rfl wc.heap.size 42 i0 (.agg #[.int .i64 0, .int .i64 0, .int .i64 0]) 3 24 Try.underlying26 hi hz0 hz1 hz2 rfl (by decide) (.slice (some ⟨_, 0, none⟩) 0 0) 0 [] rfl ?hown wc.heap.size (some ⟨b, off, none⟩) k c (imRow (l.take k)) rfl ?hrd ?hlen (imRow_one _) (by simp only [maxLen]; omega) (by omega) ?hbase ?_); (case hlen => rw [imRow_len, HLt.out]); (case hown => first | with_reducible exact own_drewI (own_emptyN wc _ _ _ (Nat.le_refl _)) | with_reducible exact own_drewI (own_allocI (own_emptyN wc _ _ _ (Nat.le_refl _)) _) | with_reducible exact own_drewI (own_emptyM wc _ _ _ _ (Nat.le_refl _))); (case hrd => first | with_reducible exact HXw.out _ ((Bl.refl wc).alloc _).drew | with_reducible exact HXw.out _ (((Bl.refl wc).alloc _).alloc _).drew); (case hbase => first | with_reducible exact HQ2.out _ | with_reducible exact HQ3.out _ _); have _t := tk1; intro v2 x2 hown2 hg2; rw [Nat.zero_add, List.nil_append] at hown2; obtain ⟨A2, c2, hv2, hd2⟩ := own_form hown2; subst hv2; have HO2 := Lib.hid hown2; have HKz := Lib.hid HKc.out; (first
                | ((with_reducible change World.grownBy (wc.alloc (.cells #[] 42)).drew x2 _ at hg2); have HBx : Hid (Bl wc x2) := ((Bl.refl wc).alloc _).drew.grown hg2 (fun k hk => by cases hk; exact Nat.le_refl _))
                | ((with_reducible change World.grownBy ((wc.alloc (.cells #[.int .i64 (xp : Int), .int .i64 (xd : Int), .int .i64 (xf : Int)] 42)).alloc (.cells #[] 42)).drew x2 _ at hg2); have HBx : Hid (Bl wc x2) := (((Bl.refl wc).alloc _).alloc _).drew.grown hg2 (fun k hk => by cases hk; exact Nat.le_succ _); have HBt : Hid (Bk x2 wc.heap.size 42 #[.int .i64 (xp : Int), .int .i64 (xd : Int), .int .i64 (xf : Int)]) := ((Bk.new wc 42 #[.int .i64 (xp : Int), .int .i64 (xd : Int), .int .i64 (xf : Int)]).alloc _).drew.grown hg2 (by simp [Value.ownBlock]))
                | ((with_reducible change World.grownBy ((wc.alloc (.cells #[] 42)).alloc (.cells #[.int .i64 (xp : Int), .int .i64 (xd : Int), .int .i64 (xf : Int)] 42)).drew x2 _ at hg2); have HBx : Hid (Bl wc x2) := (((Bl.refl wc).alloc _).alloc _).drew.grown hg2 (fun k hk => by cases hk; exact Nat.le_refl _); have h0 := Bk.new (wc.alloc (.cells #[] 42)) 42 #[.int .i64 (xp : Int), .int .i64 (xd : Int), .int .i64 (xf : Int)]; rw [World.size_alloc] at h0; have HBt : Hid (Bk x2 (wc.heap.size + 1) 42 #[.int .i64 (xp : Int), .int .i64 (xd : Int), .int .i64 (xf : Int)]) := h0.drew.grown hg2 (by simp [Value.ownBlock]); clear h0)); have HKc := Lib.hid (HKz.out.bl HBx.out); have HS2 : Hid (wc.heap.size ≤ x2.heap.size) := HBx.out.size; have HS3 : Hid (∀ o, wc.heap.size ≤ (x2.alloc o).heap.size) := (fun o => by rw [World.size_alloc]; have := HS2.out; omega); clear hown2 hg2 hd2 tk1)
              | ((first
                | ((refine step_append_rdN rfl (.tmp 38) (.tmp 40) 26 rfl wc.heap.size 42 i0 (.agg #[.int .i64 0, .int .i64 0, .int .i64 0]) 3 24 Try.underlying26 hi hz0 hz1 hz2 rfl (by decide) (.slice A2 k c2) k (imRow (l.take k)) rfl ?hown x2.heap.size (some ⟨_, 0, none⟩) 1 1 (imRow [(⟨xp, xd, xf⟩ : Ch.Im)]) rfl ?hrd rfl (imRow_one _) (by simp only [maxLen]; omega) (by omega) ?hbase ?_); (case hrd => first | with_reducible exact rd_blockI HBt.out | with_reducible exact Rd.drew (rd_blockI HBt.out)))
                | ((refine step_append_rdN rfl (.tmp 38) (.tmp 40) 26 rfl wc.heap.size 42 i0 (.agg #[.int .i64 0, .int .i64 0, .int .i64 0]) 3 24 Try.underlying26 hi hz0 hz1 hz2 rfl (by decide) (.slice A2 k c2) k (imRow (l.take k)) rfl ?hown (x2.alloc (.cells #[.int .i64 (xp : Int), .int .i64 (xd : Int), .int .i64 (xf : Int)] 42)).heap.size (some ⟨_, 0, none⟩) 1 1 (imRow [(⟨xp, xd, xf⟩ : Ch.Im)]) rfl ?hrd rfl (imRow_one _) (by simp only [maxLen]; omega) (by omega) ?hbase ?_); (case hrd => first | with_reducible exact rd_blockI (x := ⟨xp, xd, xf⟩) (Bk.new x2 _ _) | with_reducible exact Rd.drew (rd_blockI (x := ⟨xp, xd, xf⟩) (Bk.new x2 _ _))))); (case hown => first | with_reducible exact HO2.out | with_reducible exact own_drewI HO2.out | with_reducible exact own_allocI HO2.out _ | with_reducible exact own_drewI (own_allocI HO2.out _)); (case hbase => first | with_reducible exact HS2.out | with_reducible exact HS3.out _ | exact HS2.out | exact HS3.out _); have _t := tk2; intro v3 x3 hown3 hg3; obtain ⟨A3, c3, hv3, hd3⟩ := own_form hown3; subst hv3; have HO3 := Lib.hid hown3; have HBy : Hid (Bl wc x3) := (by first | exact HBx.out.grown hg3 (fun k hk => (HO2.out.lt k hk).1) | exact HBx.out.drew.grown hg3 (fun k hk => (HO2.out.lt k hk).1) | exact (HBx.out.alloc _).grown hg3 (fun k hk => (HO2.out.lt k hk).1) | exact (HBx.out.alloc _).drew.grown hg3 (fun k hk => (HO2.out.lt k hk).1)); have HKc := Lib.hid (HKr.out.bl HBy.out); clear hown3 hg3 hd3 tk2)
              | ((refine step_append_rdN rfl (.tmp 41) (.tmp 44) 26 rfl wc.heap.size 42 i0 (.agg #[.int .i64 0, .int .i64 0, .int .i64 0]) 3 24 Try.underlying26 hi hz0 hz1 hz2 rfl (by decide) (.slice A3 (k + 1) c3) (k + 1) (imRow (l.take k) ++ imRow [(⟨xp, xd, xf⟩ : Ch.Im)]) rfl HO3.out wc.heap.size Ay (n - k) (c - k) (imRow (l.drop k)) rfl (HYw.out _ HBy.out) (by rw [imRow_len, HLd.out]) (imRow_one _) (by simp only [maxLen]; omega) (by omega) HBy.out.size ?_); have _t := tk3; intro v4 x4 hown4 hg4; obtain ⟨A4, c4, hv4, hd4⟩ := own_form hown4; subst hv4; have HO4 := Lib.hid hown4; have HD4 := Lib.hid hd4; have HBz : Hid (Bl wc x4) := HBy.out.grown hg4 (fun k hk => (HO3.out.lt k hk).1); have HKc := Lib.hid (HKr.out.bl HBz.out); clear hown4 hg4 hd4 tk3))
            all_goals
              have HRow : Hid (Rd x4 x4.heap.size A4 (imRow (l.take k ++ [(⟨xp, xd, xf⟩ : Ch.Im)] ++ l.drop k))) := by
                have h := rd_ownN HO4.out
                rw [← imRow_append, ← imRow_append] at h
                exact h
              have HLn : Hid (k + 1 + (n - k) = (l.take k ++ [(⟨xp, xd, xf⟩ : Ch.Im)] ++ l.drop k).length) := by
                show _ = _
                rw [List.length_append, List.length_append, HLt.out, HLd.out]; rfl
              have HB9 := Lib.hid (HBr.out.trans HBz.out)
              generalize k + 1 + (n - k) = L at HLn HD4 ⊢
              go_wp2_with fail
              go_ret2
              exact ⟨A4, c4, by rw [HNw.out.1, HNw.out.2, ← HLn.out]; rfl, by rw [HNw.out.1, ← HLn.out]; exact HD4.out, by rw [HNw.out.1]; exact HRow.out, HB9.out⟩
    · have hik : ¬ (k : Int) < (n : Int) := by omega
      have dk : decide ((k : Int) < (n : Int)) = false := decide_eq_false hik
      have HNw := Lib.hid (HLk.out.new fun h => absurd h (by have := HN.out; omega))
      clear hlt
      go_upto_region 2 with fail
      go_quiet (fail)
      go_upto_region 4 with fail
      go_cut [32] from 21 to 32 (fun v wx => v = .bool false ∧ Hid (Bl w wx) ∧ Hid (Bk wx w.heap.size 42 #[.int .i64 (x.prod : Int), .int .i64 (x.dot : Int), .int .i64 (x.frm : Int)]))
      case first =>
        go_quiet (fail)
        go_wp2_with fail
        go_meet
        exact ⟨rfl, HB.out.drewN _, HK.out⟩
      case rest =>
            obtain ⟨rfl, HBr, HKr⟩ := hcut
            clear dk hik HB HK HLk
            have hk9 : k ≤ n := by omega
            have HXw : Hid (∀ w', Bl wc w' → Rd w' wc.heap.size A (imRow (l.take k))) := fun w' hb => (((HR.out _ HBr.out).more (Nat.le_trans hB2.out HBr.out.size)).im_take k).bl (Nat.le_refl _) hb
            have HYw : Hid (∀ w', Bl wc w' → Rd w' wc.heap.size (if c = k then A else (A : Option Addr).map (·.add (k * 3))) (imRow (l.drop k))) := fun w' hb => (((HR.out _ HBr.out).more (Nat.le_trans hB2.out HBr.out.size)).im_cut (k := k) (cap := c) (by have := HN.out; omega)).bl (Nat.le_refl _) hb
            have hsl1 := fun (wx : World) => run_slice_head (P := Try.prog) (t := 26) (e := 42) (size := 3) Try.underlying26 im_size A n c k (k : Int) rfl (by omega) wx
            have hsl2 := fun (wx : World) => run_slice_tail (P := Try.prog) (t := 26) (e := 42) (size := 3) Try.underlying26 im_size A n c k (k : Int) rfl (by omega) wx
            generalize (if c = k then A else (A : Option Addr).map (·.add (k * 3))) = Ay at HYw hsl2
            have HLt : Hid ((l.take k).length = k) := by show _ = _; rw [List.length_take]; have := HN.out; omega
            have HLd : Hid ((l.drop k).length = n - k) := by show _ = _; rw [List.length_drop]; have := HN.out; omega
            have HQ2 : Hid (∀ o, wc.heap.size ≤ (wc.alloc o).drew.heap.size) := fun o => by show _ ≤ (wc.alloc o).heap.size; rw [World.size_alloc]; omega
            have HQ3 : Hid (∀ o o', wc.heap.size ≤ ((wc.alloc o).alloc o').drew.heap.size) := fun o o' => by show _ ≤ ((wc.alloc o).alloc o').heap.size; rw [World.size_alloc, World.size_alloc]; omega
            have HKc := Lib.hid HKr.out
            have tk1 : True := trivial
            have tk2 : True := trivial
            have tk3 : True := trivial
            go_upto_region 6 with fail
            go_region_held3 (fun wx => wx.cell? ⟨w.heap.size, 0, none⟩ = some (.int .i64 (x.prod : Int)) ∧ wx.cell? ⟨w.heap.size, 1, none⟩ = some (.int .i64 (x.dot : Int)) ∧ wx.cell? ⟨w.heap.size, 2, none⟩ = some (.int .i64 (x.frm : Int))) (first | with_reducible exact icells HKc.out | with_reducible exact icells HKc.out.drew | with_reducible exact icells (HKc.out.alloc _) | with_reducible exact icells (HKc.out.alloc _).drew | with_reducible exact icells ((HKc.out.alloc _).alloc _).drew) (first
              | ((refine step_append_rdN rfl (.tmp 34) (.tmp 37) 26 rfl wc.heap.size 42 i0 (.agg #[.int .i64 0, .int .i64 0, .int .i64 0]) 3 24 Try.underlying26 hi hz0 hz1 hz2 rfl (by decide) (.slice (some ⟨_, 0, none⟩) 0 0) 0 [] rfl ?hown wc.heap.size A k c (imRow (l.take k)) rfl ?hrd ?hlen (imRow_one _) (by simp only [maxLen]; omega) (by omega) ?hbase ?_); (case hlen => rw [imRow_len, HLt.out]); (case hown => first | with_reducible exact own_drewI (own_emptyN wc _ _ _ (Nat.le_refl _)) | with_reducible exact own_drewI (own_allocI (own_emptyN wc _ _ _ (Nat.le_refl _)) _) | with_reducible exact own_drewI (own_emptyM wc _ _ _ _ (Nat.le_refl _))); (case hrd => first | with_reducible exact HXw.out _ ((Bl.refl wc).alloc _).drew | with_reducible exact HXw.out _ (((Bl.refl wc).alloc _).alloc _).drew); (case hbase => first | with_reducible exact HQ2.out _ | with_reducible exact HQ3.out _ _); have _t := tk1; intro v2 x2 hown2 hg2; rw [Nat.zero_add, List.nil_append] at hown2; obtain ⟨A2, c2, hv2, hd2⟩ := own_form hown2; subst hv2; have HO2 := Lib.hid hown2; have HKz := Lib.hid HKc.out; (first
                | ((with_reducible change World.grownBy (wc.alloc (.cells #[] 42)).drew x2 _ at hg2); have HBx : Hid (Bl wc x2) := ((Bl.refl wc).alloc _).drew.grown hg2 (fun k hk => by cases hk; exact Nat.le_refl _))
                | ((with_reducible change World.grownBy ((wc.alloc (.cells #[.int .i64 (x.prod : Int), .int .i64 (x.dot : Int), .int .i64 (x.frm : Int)] 42)).alloc (.cells #[] 42)).drew x2 _ at hg2); have HBx : Hid (Bl wc x2) := (((Bl.refl wc).alloc _).alloc _).drew.grown hg2 (fun k hk => by cases hk; exact Nat.le_succ _); have HBt : Hid (Bk x2 wc.heap.size 42 #[.int .i64 (x.prod : Int), .int .i64 (x.dot : Int), .int .i64 (x.frm : Int)]) := ((Bk.new wc 42 #[.int .i64 (x.prod : Int), .int .i64 (x.dot : Int), .int .i64 (x.frm : Int)]).alloc _).drew.grown hg2 (by simp [Value.ownBlock]))
                | ((with_reducible change World.grownBy ((wc.alloc (.cells #[] 42)).alloc (.cells #[.int .i64 (x.prod : Int), .int .i64 (x.dot : Int), .int .i64 (x.frm : Int)] 42)).drew x2 _ at hg2); have HBx : Hid (Bl wc x2) := (((Bl.refl wc).alloc _).alloc _).drew.grown hg2 (fun k hk => by cases hk; exact Nat.le_refl _); have h0 := Bk.new (wc.alloc (.cells #[] 42)) 42 #[.int .i64 (x.prod : Int), .int .i64 (x.dot : Int), .int .i64 (x.frm : Int)]; rw [World.size_alloc] at h0; have HBt : Hid (Bk x2 (wc.heap.size + 1) 42 #[.int .i64 (x.prod : Int), .int .i64 (x.dot : Int), .int .i64 (x.frm : Int)]) := h0.drew.grown hg2 (by simp [Value.ownBlock]); clear h0)); have HKc := Lib.hid (HKz.out.bl HBx.out); have HS2 : Hid (wc.heap.size ≤ x2.heap.size) := HBx.out.size; have HS3 : Hid (∀ o, wc.heap.size ≤ (x2.alloc o).heap.size) := (fun o => by rw [World.size_alloc]; have := HS2.out; omega); clear hown2 hg2 hd2 tk1)
              | ((first
                | ((refine step_append_rdN rfl (.tmp 38) (.tmp 40) 26 rfl wc.heap.size 42 i0 (.agg #[.int .i64 0, .int .i64 0, .int .i64 0]) 3 24 Try.underlying26 hi hz0 hz1 hz2 rfl (by decide) (.slice A2 k c2) k (imRow (l.take k)) rfl ?hown x2.heap.size (some ⟨_, 0, none⟩) 1 1 (imRow [x]) rfl ?hrd rfl (imRow_one _) (by simp only [maxLen]; omega) (by omega) ?hbase ?_); (case hrd => first | with_reducible exact rd_blockI HBt.out | with_reducible exact Rd.drew (rd_blockI HBt.out)))
                | ((refine step_append_rdN rfl (.tmp 38) (.tmp 40) 26 rfl wc.heap.size 42 i0 (.agg #[.int .i64 0, .int .i64 0, .int .i64 0]) 3 24 Try.underlying26 hi hz0 hz1 hz2 rfl (by decide) (.slice A2 k c2) k (imRow (l.take k)) rfl ?hown (x2.alloc (.cells #[.int .i64 (x.prod : Int), .int .i64 (x.dot : Int), .int .i64 (x.frm : Int)] 42)).heap.size (some ⟨_, 0, none⟩) 1 1 (imRow [x]) rfl ?hrd rfl (imRow_one _) (by simp only [maxLen]; omega) (by omega) ?hbase ?_); (case hrd => first | with_reducible exact rd_blockI (x := x) (Bk.new x2 _ _) | with_reducible exact Rd.drew (rd_blockI (x := x) (Bk.new x2 _ _))))); (case hown => first | with_reducible exact HO2.out | with_reducible exact own_drewI HO2.out | with_reducible exact own_allocI HO2.out _ | with_reducible exact own_drewI (own_allocI HO2.out _)); (case hbase => first | with_reducible exact HS2.out | with_reducible exact HS3.out _ | exact HS2.out | exact HS3.out _); have _t := tk2; intro v3 x3 hown3 hg3; obtain ⟨A3, c3, hv3, hd3⟩ := own_form hown3; subst hv3; have HO3 := Lib.hid hown3; have HBy : Hid (Bl wc x3) := (by first | exact HBx.out.grown hg3 (fun k hk => (HO2.out.lt k hk).1) | exact HBx.out.drew.grown hg3 (fun k hk => (HO2.out.lt k hk).1) | exact (HBx.out.alloc _).grown hg3 (fun k hk => (HO2.out.lt k hk).1) | exact (HBx.out.alloc _).drew.grown hg3 (fun k hk => (HO2.out.lt k hk).1)); have HKc := Lib.hid (HKr.out.bl HBy.out); clear hown3 hg3 hd3 tk2)
              | ((refine step_append_rdN rfl (.tmp 41) (.tmp 44) 26 rfl wc.heap.size 42 i0 (.agg #[.int .i64 0, .int .i64 0, .int .i64 0]) 3 24 Try.underlying26 hi hz0 hz1 hz2 rfl (by decide) (.slice A3 (k + 1) c3) (k + 1) (imRow (l.take k) ++ imRow [x]) rfl HO3.out wc.heap.size Ay (n - k) (c - k) (imRow (l.drop k)) rfl (HYw.out _ HBy.out) (by rw [imRow_len, HLd.out]) (imRow_one _) (by simp only [maxLen]; omega) (by omega) HBy.out.size ?_); have _t := tk3; intro v4 x4 hown4 hg4; obtain ⟨A4, c4, hv4, hd4⟩ := own_form hown4; subst hv4; have HO4 := Lib.hid hown4; have HD4 := Lib.hid hd4; have HBz : Hid (Bl wc x4) := HBy.out.grown hg4 (fun k hk => (HO3.out.lt k hk).1); have HKc := Lib.hid (HKr.out.bl HBz.out); clear hown4 hg4 hd4 tk3))
            all_goals
              have HRow : Hid (Rd x4 x4.heap.size A4 (imRow (l.take k ++ [x] ++ l.drop k))) := by
                have h := rd_ownN HO4.out
                rw [← imRow_append, ← imRow_append] at h
                exact h
              have HLn : Hid (k + 1 + (n - k) = (l.take k ++ [x] ++ l.drop k).length) := by
                show _ = _
                rw [List.length_append, List.length_append, HLt.out, HLd.out]; rfl
              have HB9 := Lib.hid (HBr.out.trans HBz.out)
              generalize k + 1 + (n - k) = L at HLn HD4 ⊢
              go_wp2_with fail
              go_ret2
              exact ⟨A4, c4, by rw [HNw.out.1, HNw.out.2, ← HLn.out]; rfl, by rw [HNw.out.1, ← HLn.out]; exact HD4.out, by rw [HNw.out.1]; exact HRow.out, HB9.out⟩
end Go.Proofs.Ytckckejgocbkkaa
