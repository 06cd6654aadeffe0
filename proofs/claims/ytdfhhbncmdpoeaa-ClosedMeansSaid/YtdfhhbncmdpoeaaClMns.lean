/- ClosedMeans: what isn't next at the last of closed sets may not stand there. -/
import Derived.Test.YtdfhhbncmdpoeaaClAwk
import Derived.Test.YtdfhhbncmdpoeaaClLrg
import Derived.Test.YtdfhhbncmdpoeaaClMth
import Derived.Test.YtdfhhbncmdpoeaaClIn
import Derived.Test.YtdfhhbncmdpoeaaWordS
import Derived.Test.YtdfhhbncmdpoeaaLitS
import Derived.Deep.RegionWith
namespace Go.Proofs.Ytdfhhbncmdpoeaa
open Go.RowKit

theorem cl_int_size : (Try.prog.info? 3).map (·.size) = some 1 := by kernel_rfl
theorem ins_takeL {w : World} {B : Nat} {A : Option Addr} {l : List Int} (h : Rd w B A (ins l)) (k : Nat) : Rd w B A (ins (l.take k)) := by
  have h1 := h.take k
  unfold ins at h1 ⊢
  rwa [List.map_take]
set_option maxRecDepth 100000 in
set_option maxHeartbeats 16000000 in
theorem closedMeans_any (t n s : Int) (A : Option Addr) (len c : Nat) (ps : List Gr.Pr) (Aw : Option Addr) (lw cw : Nat) (xs : List Int) (As : Option Addr) (ls cs : Nat) (L : List (List Ix)) (W : World) (hlen : len = ps.length) (hmax : len ≤ 9223372036854775807) (hr : PrsC W W.heap.size A ps)
    (hlw : lw = xs.length) (hcw : lw ≤ cw) (hrw : Rd W W.heap.size Aw (ins xs)) (hmw : lw ≤ 9223372036854775807) (hls : ls = L.length) (hms : ls ≤ 9223372036854775807) (hs : SetsX W W.heap.size As L) :
    Calls Try.prog 4 #[.agg #[.int .i64 t, .int .i64 n, .int .i64 s, .slice A len c], .slice Aw lw cw, .slice As ls cs] W fun e w' => e = .returned (.bool true) ∧ Bl W w' := by
  have HB0 : Hid (Bl W (W.alloc (.cells #[.int .i64 t, .int .i64 n, .int .i64 s, .slice A len c] 24))) := (Bl.refl W).alloc _
  have HK0 := Lib.hid (Bk.new W 24 #[.int .i64 t, .int .i64 n, .int .i64 s, .slice A len c])
  have HL := Lib.hid hlen
  have HLw := Lib.hid hlw
  have HLs := Lib.hid hls
  have HPc : Hid (∀ w', Bl W w' → PrsC w' w'.heap.size A ps) := fun _ hb => lprs_on hr hb
  have HXc : Hid (∀ w', Bl W w' → Rd w' w'.heap.size Aw (ins xs)) := fun _ hb => lrd_on hrw hb
  have HSc : Hid (∀ w', Bl W w' → SetsX w' w'.heap.size As L) := fun _ hb => hs.on hb
  clear hlen hlw hls hr hrw hs
  go_enter Try.func4, Try.ntmps4
  go_wp2_with fail
  refine (awake19_any _).mono ?_
  rintro e w1 ⟨rfl, hb1⟩
  have HB1 := Lib.hid (HB0.out.trans hb1)
  have HK1 := Lib.hid (HK0.out.bl hb1)
  clear hb1 HB0 HK0
  have k0 : w1.cell? ⟨W.heap.size, 0, none⟩ = some (.int .i64 t) := HK1.out.cell 0
  have k1 : w1.cell? ⟨W.heap.size, 1, none⟩ = some (.int .i64 n) := HK1.out.cell 1
  have k2 : w1.cell? ⟨W.heap.size, 2, none⟩ = some (.int .i64 s) := HK1.out.cell 2
  have k3 : w1.cell? ⟨W.heap.size, 3, none⟩ = some (.slice A len c) := HK1.out.cell 3
  have kl := HK1.out.lt
  go_wp2_with fail
  refine (large17_any t n s A len c ps Aw lw cw w1 w1.heap.size HL.out hmax (by omega) (HPc.out w1 HB1.out).prs (Nat.le_refl _)).mono ?_
  rintro e w2 ⟨rfl, hb2⟩
  have HB2 := Lib.hid (HB1.out.trans hb2)
  have HK2 := Lib.hid (HK1.out.bl hb2)
  clear hb2 HB1 HK1 k0 k1 k2 k3 kl
  cases hl : lg17 ps lw with
  | true =>
    go_wp2_with fail
    go_ret
    exact ⟨rfl, HB2.out⟩
  | false =>
  clear hl
  go_wp2_with fail
  refine (large19_any As ls cs L w2 w2.heap.size HLs.out hms (HSc.out w2 HB2.out) (Nat.le_refl _)).mono ?_
  rintro e w3 ⟨rfl, hb3⟩
  have HB3 := Lib.hid (HB2.out.trans hb3)
  have HK3 := Lib.hid (HK2.out.bl hb3)
  clear hb3 HB2 HK2
  cases hg : lgS L with
  | true =>
    clear hg
    go_wp2_with fail
    go_ret
    exact ⟨rfl, HB3.out⟩
  | false =>
  have HLg := Lib.hid (lgS_no hg)
  clear hg
  by_cases h8 : 8 < lw
  · have d8 : decide ((8 : Int) < (lw : Int)) = true := decide_eq_true (by omega)
    clear h8
    go_wp2_with fail
    go_ret
    exact ⟨rfl, HB3.out⟩
  have d8 : decide ((8 : Int) < (lw : Int)) = false := decide_eq_false (by omega)
  have k0 : w3.cell? ⟨W.heap.size, 0, none⟩ = some (.int .i64 t) := HK3.out.cell 0
  have k1 : w3.cell? ⟨W.heap.size, 1, none⟩ = some (.int .i64 n) := HK3.out.cell 1
  have k2 : w3.cell? ⟨W.heap.size, 2, none⟩ = some (.int .i64 s) := HK3.out.cell 2
  have k3 : w3.cell? ⟨W.heap.size, 3, none⟩ = some (.slice A len c) := HK3.out.cell 3
  have kl := HK3.out.lt
  go_wp2_with fail
  refine (closed_any t n s A len c ps Aw lw cw xs As ls cs L w3 w3.heap.size HL.out hmax (HPc.out w3 HB3.out).prs HLw.out hcw (HXc.out w3 HB3.out) HLs.out (by have := HLg.out.1; omega) (fun l hl => by have := HLg.out.2 l hl; omega) (HSc.out w3 HB3.out) (Nat.le_refl _)).mono ?_
  rintro e w4 ⟨b4, rfl, hi4, hb4⟩
  have HB4 := Lib.hid (HB3.out.trans hb4)
  have HK4 := Lib.hid (HK3.out.bl hb4)
  clear hb4 HB3 HK3 k0 k1 k2 k3 kl d8
  cases b4 with
  | false =>
    clear hi4
    go_wp2_with fail
    go_ret
    exact ⟨rfl, HB4.out⟩
  | true =>
  have HCl := Lib.hid (hi4.1 rfl)
  clear hi4
  have k0 : w4.cell? ⟨W.heap.size, 0, none⟩ = some (.int .i64 t) := HK4.out.cell 0
  have k1 : w4.cell? ⟨W.heap.size, 1, none⟩ = some (.int .i64 n) := HK4.out.cell 1
  have k2 : w4.cell? ⟨W.heap.size, 2, none⟩ = some (.int .i64 s) := HK4.out.cell 2
  have k3 : w4.cell? ⟨W.heap.size, 3, none⟩ = some (.slice A len c) := HK4.out.cell 3
  have kl := HK4.out.lt
  go_wp2_with fail
  refine (rdfits_any t n s A len c Aw lw cw xs w4 w4.heap.size HLw.out (by omega) (HXc.out w4 HB4.out) (Nat.le_refl _)).mono ?_
  rintro e w5 ⟨rfl, hb5⟩
  have HB5 := Lib.hid (HB4.out.trans hb5)
  have HK5 := Lib.hid (HK4.out.bl hb5)
  clear hb5 HB4 HK4 k0 k1 k2 k3 kl
  cases hf : Wd.fits t xs with
  | false =>
    clear hf
    go_wp2_with fail
    go_ret
    exact ⟨rfl, HB5.out⟩
  | true =>
  have HTk : Hid (∀ x ∈ xs, 0 ≤ x ∧ x ≤ 15) := fun x hx => ((Wd.okW_iff xs).1 ((Wd.fits_iff _ _).1 hf).1).2 x hx
  clear hf
  have hk := keepB_ok HCl.out.1
  have hok : Gr.Ok ⟨t, n, s, ps⟩ := hk.1
  have HOk := Lib.hid hok
  have hl0 : 0 < ls := by have := HLs.out; omega
  have hlx : ls ≤ lw + 1 := by have := HLs.out; have := HLw.out; omega
  clear hk hok
  obtain ⟨k, rfl⟩ : ∃ k, ls = k + 1 := ⟨ls - 1, by omega⟩
  have hkw : k ≤ lw := by omega
  have hkL : k < L.length := by have := HLs.out; omega
  obtain ⟨b6, o6, A6, c6, rfl, hb6, hc6, hr6⟩ := (HSc.out w5 HB5.out).at_ hkL
  have HR6 := Lib.hid (fun (wx : World) (hb : Bl w5 wx) => hr6.bl (Nat.le_refl _) hb)
  have HLk : Hid (L[k]? = some L[k]) := List.getElem?_eq_getElem hkL
  have hl2 := HLg.out.2 L[k] (List.getElem_mem hkL)
  clear hr6
  generalize L[k] = l at *
  generalize hll : l.length = m at *
  have HLm := Lib.hid hll
  clear hll hkL
  have i1 : IntKind.i64.wrap (((k + 1 : Nat) : Int) - 1) = (k : Int) := by rw [IntKind.wrap_i64]; omega
  go_upto_region 6 with fail
  have HNx := Lib.hid (fun (wx : World) (hb : Bl w5 wx) => cnext_any t n s A len c ps A6 m c6 l wx wx.heap.size HL.out hmax (HPc.out wx (HB5.out.trans hb)).prs HLm.out.symm (by omega) ((HR6.out wx hb).more hb.size) (Nat.le_refl _))
  have HZ : Hid (nxtN ⟨t, n, s, ps⟩ l < 131072) := nxtN_lt _ _
  have HT1 : Hid (∀ x : Nat, (hx : k < xs.length) → xs[k] = (x : Int) → Cf.Cm ⟨t, n, s, ps⟩ [⟨true, s⟩] xs → (nxtN ⟨t, n, s, ps⟩ l).testBit x = true) := fun x hx e hc => by
    have h := closed_tok HCl.out HLk.out hx (by omega) hc
    rw [e] at h
    exact h
  have HT2 : Hid (Cf.Cm ⟨t, n, s, ps⟩ [⟨true, s⟩] (xs.take k) → (nxtN ⟨t, n, s, ps⟩ l).testBit 16 = true) := fun hc => closed_end HCl.out HLk.out (by have := HLw.out; omega) hc
  generalize nxtN ⟨t, n, s, ps⟩ l = z at *
  have j0 : (0 : Int) ≤ (k : Int) := by omega
  have j1 : (k : Int) < ((k : Int) + 1) := by omega
  have HBd : Hid (Bl w5 w5.drew) := (Bl.refl w5).drew
  have HX : Hid (∀ wx, Bl w5 wx → wx.cell? ⟨W.heap.size, 0, none⟩ = some (.int .i64 t) ∧ wx.cell? ⟨W.heap.size, 1, none⟩ = some (.int .i64 n) ∧ wx.cell? ⟨W.heap.size, 2, none⟩ = some (.int .i64 s) ∧ wx.cell? ⟨W.heap.size, 3, none⟩ = some (.slice A len c) ∧ wx.cell? ⟨b6, o6 + k, none⟩ = some (.slice A6 m c6)) := fun wx hb => ⟨(HK5.out.bl hb).cell 0, (HK5.out.bl hb).cell 1, (HK5.out.bl hb).cell 2, (HK5.out.bl hb).cell 3, (World.cell?_of_block (hb.block b6 hb6)).trans hc6⟩
  have tk1 : True := trivial
  go_region_held3 (fun wx => wx.cell? ⟨W.heap.size, 0, none⟩ = some (.int .i64 t) ∧ wx.cell? ⟨W.heap.size, 1, none⟩ = some (.int .i64 n) ∧ wx.cell? ⟨W.heap.size, 2, none⟩ = some (.int .i64 s) ∧ wx.cell? ⟨W.heap.size, 3, none⟩ = some (.slice A len c) ∧ wx.cell? ⟨b6, o6 + k, none⟩ = some (.slice A6 m c6)) (first | exact HX.out _ HBd.out | exact HX.out _ HBe.out) (first
    | (go_at_call 13; have _t := tk1; ((with_reducible refine (HNx.out _ HBd.out).mono ?_); rintro e w7 ⟨rfl, hb1⟩; have HBe : Hid (Bl w5 w7) := HBd.out.trans hb1; clear hb1; clear tk1)))
  have HB7 := Lib.hid (HB5.out.trans HBe.out)
  have HK7 := Lib.hid (HK5.out.bl HBe.out)
  clear HX HNx hb6 hc6 HBd HBe HK5 HB5
  go_upto_region 7 with fail
  have HX7 := Lib.hid (fun (wx : World) (hb : Bl w7 wx) => (show wx.cell? ⟨W.heap.size, 0, none⟩ = some (.int .i64 t) ∧ wx.cell? ⟨W.heap.size, 1, none⟩ = some (.int .i64 n) ∧ wx.cell? ⟨W.heap.size, 2, none⟩ = some (.int .i64 s) ∧ wx.cell? ⟨W.heap.size, 3, none⟩ = some (.slice A len c) from ⟨(HK7.out.bl hb).cell 0, (HK7.out.bl hb).cell 1, (HK7.out.bl hb).cell 2, (HK7.out.bl hb).cell 3⟩))
  have hsl := fun (wx : World) => run_slice_head (P := Try.prog) (t := 25) (e := 3) (size := 1) Try.underlying25 cl_int_size Aw lw cw k (k : Int) rfl (by omega) wx
  have hz32 : z < 4294967296 := by have := HZ.out; omega
  have HTl : Hid ((xs.take k).length = k) := by show _ = _; rw [List.length_take, ← HLw.out]; omega
  have HI7 : Hid (∀ (wx : World), Bl w7 wx → Calls Try.prog 14 #[.agg #[.int .i64 t, .int .i64 n, .int .i64 s, .slice A len c], .slice Aw k cw] wx fun e w' => ∃ b : Bool, e = .returned (.bool b) ∧ (b = true ↔ Cf.Cm ⟨t, n, s, ps⟩ [⟨true, s⟩] (xs.take k)) ∧ Bl wx w') := fun wx hb => inok_any t n s A len c ps Aw k cw (xs.take k) wx wx.heap.size HL.out (HPc.out wx (HB7.out.trans hb)).prs HTl.out.symm (ins_takeL (HXc.out wx (HB7.out.trans hb)) k) (Nat.le_refl _) HOk.out (by rw [HTl.out]; omega)
  have HBd : Hid (Bl w7 w7.drew) := (Bl.refl w7).drew
  have i2 : ¬ (k : Int) < 0 := by omega
  have i3 : ¬ (lw : Int) < (k : Int) := by omega
  go_cut [55] (fun v wx => v = .bool false ∧ Hid (Bl w7 wx))
  case first =>
    by_cases hc : Cf.Cm ⟨t, n, s, ps⟩ [⟨true, s⟩] (xs.take k)
    · have HI8 : Hid (∀ (wx : World), Bl w7 wx → Calls Try.prog 14 #[.agg #[.int .i64 t, .int .i64 n, .int .i64 s, .slice A len c], .slice Aw k cw] wx fun e w' => e = .returned (.bool true) ∧ Bl wx w') := fun wx hb => (HI7.out wx hb).mono (by rintro e w' ⟨b, rfl, hi, hb'⟩; rw [hi.2 hc]; exact ⟨rfl, hb'⟩)
      have hbt := bit_at (z := z) 16 hz32
      rw [HT2.out hc] at hbt
      have hbt2 : bits .and .u32 ((z : Int) / 65536) 1 = 1 := hbt
      clear hbt hc HI7
      have tk1 : True := trivial
      go_region_held3 (fun wx => wx.cell? ⟨W.heap.size, 0, none⟩ = some (.int .i64 t) ∧ wx.cell? ⟨W.heap.size, 1, none⟩ = some (.int .i64 n) ∧ wx.cell? ⟨W.heap.size, 2, none⟩ = some (.int .i64 s) ∧ wx.cell? ⟨W.heap.size, 3, none⟩ = some (.slice A len c)) (first | exact HX7.out _ HBd.out | exact HX7.out _ HBe.out) (first
        | (go_at_call 14; have _t := tk1; ((with_reducible refine (HI8.out _ HBd.out).mono ?_); rintro e v2 ⟨rfl, hb1⟩; have HBe : Hid (Bl w7 v2) := HBd.out.trans hb1; clear hb1; clear tk1)))
      all_goals
        go_wp2_with fail
        go_meet
        exact ⟨rfl, HBe.out⟩
    · have HI8 : Hid (∀ (wx : World), Bl w7 wx → Calls Try.prog 14 #[.agg #[.int .i64 t, .int .i64 n, .int .i64 s, .slice A len c], .slice Aw k cw] wx fun e w' => e = .returned (.bool false) ∧ Bl wx w') := fun wx hb => (HI7.out wx hb).mono (by
        rintro e w' ⟨b, rfl, hi, hb'⟩
        cases b with
        | true => exact (hc (hi.1 rfl)).elim
        | false => exact ⟨rfl, hb'⟩)
      clear hc HI7
      refine wp_region_held_drew (S := (fun wx => wx.cell? ⟨W.heap.size, 0, none⟩ = some (.int .i64 t) ∧ wx.cell? ⟨W.heap.size, 1, none⟩ = some (.int .i64 n) ∧ wx.cell? ⟨W.heap.size, 2, none⟩ = some (.int .i64 s) ∧ wx.cell? ⟨W.heap.size, 3, none⟩ = some (.slice A len c))) (by kernel_rfl) (HX7.out _ HBd.out) (fun hHeld => ?_)
      refine wpAnyH_take (i := 0) (oi := ({ dst := some 45, op := Op.load 24 (Operand.tmp 3), type := 24, pos := "law.go:95", after := #[], guard := none } : Oper)) (v := ?_) rfl (by kernel_rfl) (by kernel_rfl) (by kernel_rfl) (fun _ _ _ h => h) (Or.inl ⟨by rfl, ?_⟩) hHeld ?_
      rotate_left
      · (intro w hSw; (try dsimp only at hSw); go_simp) <;> with_reducible rfl
      try simp only [Act.put, List.setIfInBounds_toArray, List.set_cons_zero, List.set_cons_succ]
      refine wpAnyH_take (i := 1) (oi := ({ dst := some 46, op := Op.move (Operand.tmp 1), type := 25, pos := "law.go:95", after := #[], guard := none } : Oper)) (v := ?_) rfl (by kernel_rfl) (by kernel_rfl) (by kernel_rfl) (fun _ _ _ h => h) (Or.inl ⟨by rfl, ?_⟩) hHeld ?_
      rotate_left
      · (intro w hSw; (try dsimp only at hSw); go_simp) <;> with_reducible rfl
      try simp only [Act.put, List.setIfInBounds_toArray, List.set_cons_zero, List.set_cons_succ]
      refine wpAnyH_take (i := 2) (oi := ({ dst := some 47, op := Op.move (Operand.tmp 7), type := 3, pos := "law.go:95", after := #[], guard := none } : Oper)) (v := ?_) rfl (by kernel_rfl) (by kernel_rfl) (by kernel_rfl) (fun _ _ _ h => h) (Or.inl ⟨by rfl, ?_⟩) hHeld ?_
      rotate_left
      · (intro w hSw; (try dsimp only at hSw); go_simp) <;> with_reducible rfl
      try simp only [Act.put, List.setIfInBounds_toArray, List.set_cons_zero, List.set_cons_succ]
      refine wpAnyH_take (i := 3) (oi := ({ dst := some 48, op := Op.slice 25 (Operand.tmp 46) none (some (Operand.tmp 47)) none, type := 25, pos := "law.go:95", after := #[{ on := 1, ground := Ground.data }, { on := 2, ground := Ground.data }], guard := none } : Oper)) (v := ?_) rfl (by kernel_rfl) (by kernel_rfl) (by kernel_rfl) (fun _ _ _ h => h) (Or.inl ⟨by rfl, ?_⟩) hHeld ?_
      rotate_left
      · (intro w hSw; (try dsimp only at hSw); go_simp) <;> with_reducible rfl
      try simp only [Act.put, List.setIfInBounds_toArray, List.set_cons_zero, List.set_cons_succ]
      refine wpAnyH_ready (rs := [4]) (by kernel_rfl) (by simp) ?_
      refine AllReadyH.cons (o := ({ dst := some 49, op := Op.call { callee := Callee.value (Operand.func 14), args := #[Operand.tmp 45, Operand.tmp 48], argTypes := #[24, 25] }, type := 4, pos := "law.go:95", after := #[{ on := 0, ground := Ground.data }, { on := 3, ground := Ground.data }], guard := none } : Oper)) rfl (fun K hK => ?_) (AllReadyH.nil)
      go_simp
      ((with_reducible refine (HI8.out _ HBd.out).mono ?_); rintro e v2 ⟨rfl, hb1⟩)
      have HBe : Hid (Bl w7 v2) := HBd.out.trans hb1
      clear hb1
      go_wp2_with fail
      refine hK.out _ _ (HX7.out _ HBe.out) (fun hHeld => ?_)
      clear hK K
      try simp only [Act.put, List.setIfInBounds_toArray, List.set_cons_zero, List.set_cons_succ]
      refine wpAnyH_take (i := 5) (oi := ({ dst := some 50, op := Op.move (Operand.tmp 49), type := 4, pos := "law.go:95", after := #[{ on := 4, ground := Ground.data }, { on := 4, ground := Ground.chain }], guard := none } : Oper)) (v := ?_) rfl (by kernel_rfl) (by kernel_rfl) (by kernel_rfl) (fun _ _ _ h => h) (Or.inl ⟨by rfl, ?_⟩) hHeld ?_
      rotate_left
      · (intro w hSw; (try dsimp only at hSw); go_simp) <;> with_reducible rfl
      try simp only [Act.put, List.setIfInBounds_toArray, List.set_cons_zero, List.set_cons_succ]
      refine wpAnyH_take (i := 6) (oi := ({ dst := some 51, op := Op.move (Operand.tmp 8), type := 32, pos := "law.go:95", after := #[{ on := 5, ground := Ground.guard }], guard := some (5, true) } : Oper)) (v := undef) rfl (by kernel_rfl) (by kernel_rfl) (by kernel_rfl) (fun _ _ _ h => h) (Or.inr ⟨by rfl, rfl⟩) hHeld ?_
      try simp only [Act.put, List.setIfInBounds_toArray, List.set_cons_zero, List.set_cons_succ]
      refine wpAnyH_take (i := 7) (oi := ({ dst := some 52, op := Op.binOp BinOp.shr 32 (Operand.tmp 51) (Operand.const (Value.int IntKind.u64 16)) 35, type := 32, pos := "law.go:95", after := #[{ on := 6, ground := Ground.data }, { on := 5, ground := Ground.guard }], guard := some (5, true) } : Oper)) (v := undef) rfl (by kernel_rfl) (by kernel_rfl) (by kernel_rfl) (fun _ _ _ h => h) (Or.inr ⟨by rfl, rfl⟩) hHeld ?_
      try simp only [Act.put, List.setIfInBounds_toArray, List.set_cons_zero, List.set_cons_succ]
      refine wpAnyH_take (i := 8) (oi := ({ dst := some 53, op := Op.binOp BinOp.and 32 (Operand.tmp 52) (Operand.const (Value.int IntKind.u32 1)) 32, type := 32, pos := "law.go:95", after := #[{ on := 7, ground := Ground.data }, { on := 5, ground := Ground.guard }], guard := some (5, true) } : Oper)) (v := undef) rfl (by kernel_rfl) (by kernel_rfl) (by kernel_rfl) (fun _ _ _ h => h) (Or.inr ⟨by rfl, rfl⟩) hHeld ?_
      try simp only [Act.put, List.setIfInBounds_toArray, List.set_cons_zero, List.set_cons_succ]
      refine wpAnyH_take (i := 9) (oi := ({ dst := some 54, op := Op.binOp BinOp.eql 32 (Operand.tmp 53) (Operand.const (Value.int IntKind.u32 0)) 32, type := 4, pos := "law.go:95", after := #[{ on := 8, ground := Ground.data }, { on := 5, ground := Ground.guard }], guard := some (5, true) } : Oper)) (v := undef) rfl (by kernel_rfl) (by kernel_rfl) (by kernel_rfl) (fun _ _ _ h => h) (Or.inr ⟨by rfl, rfl⟩) hHeld ?_
      try simp only [Act.put, List.setIfInBounds_toArray, List.set_cons_zero, List.set_cons_succ]
      refine wpAnyH_take (i := 10) (oi := ({ dst := some 55, op := Op.pick (Operand.tmp 50) (Operand.tmp 54) (Operand.const (Value.bool false)), type := 4, pos := "law.go:95", after := #[{ on := 5, ground := Ground.data }, { on := 9, ground := Ground.data }], guard := none } : Oper)) (v := ?_) rfl (by kernel_rfl) (by kernel_rfl) (by kernel_rfl) (fun _ _ _ h => h) (Or.inl ⟨by rfl, ?_⟩) hHeld ?_
      rotate_left
      · (intro w hSw; (try dsimp only at hSw); go_simp) <;> with_reducible rfl
      try simp only [Act.put, List.setIfInBounds_toArray, List.set_cons_zero, List.set_cons_succ]
      refine wpAnyH_done (by kernel_rfl) ?_ _
      go_wp2_with fail
      go_meet
      exact ⟨rfl, HBe.out⟩
  case rest =>
  obtain ⟨rfl, HBc⟩ := hcut
  have HB9 := Lib.hid (HB7.out.trans HBc.out)
  have HK9 := Lib.hid (HK7.out.bl HBc.out)
  clear HX7 hsl HTl HI7 HBd HB7 HK7 HBc HT2
  have k0 : wc.cell? ⟨W.heap.size, 0, none⟩ = some (.int .i64 t) := HK9.out.cell 0
  have k1 : wc.cell? ⟨W.heap.size, 1, none⟩ = some (.int .i64 n) := HK9.out.cell 1
  have k2 : wc.cell? ⟨W.heap.size, 2, none⟩ = some (.int .i64 s) := HK9.out.cell 2
  have k3 : wc.cell? ⟨W.heap.size, 3, none⟩ = some (.slice A len c) := HK9.out.cell 3
  have kl := HK9.out.lt
  go_wp2_with fail
  refine (inok_any t n s A len c ps Aw lw cw xs wc wc.heap.size HL.out (HPc.out wc HB9.out).prs HLw.out (HXc.out wc HB9.out) (Nat.le_refl _) HOk.out (by have := HLw.out; omega)).mono ?_
  rintro e w10 ⟨b10, rfl, hi10, hb10⟩
  have HB10 := Lib.hid (HB9.out.trans hb10)
  clear hb10 k0 k1 k2 k3 kl
  cases b10 with
  | false =>
    clear hi10
    go_wp2_with fail
    go_ret
    exact ⟨rfl, HB10.out⟩
  | true =>
  have hcm := hi10.1 rfl
  clear hi10
  by_cases hke : k = lw
  · have d1 : ((k : Int) == (lw : Int)) = true := by rw [beq_iff_eq]; omega
    have d2 : decide ((k : Int) = (lw : Int)) = true := decide_eq_true (by omega)
    clear hke
    go_wp2_with fail
    go_ret
    exact ⟨rfl, HB10.out⟩
  · have d1 : ((k : Int) == (lw : Int)) = false := by rw [beq_eq_false_iff_ne]; omega
    have d2 : decide ((k : Int) = (lw : Int)) = false := decide_eq_false (by omega)
    have hkx : k < xs.length := by have := HLw.out; omega
    obtain ⟨bw, ow, rfl, hbw, cw0⟩ := (HXc.out w10 HB10.out).int hkx
    obtain ⟨x, hx, hx16⟩ : ∃ x : Nat, xs[k] = (x : Int) ∧ x < 16 := by
      have := HTk.out xs[k] (List.getElem_mem hkx)
      exact ⟨xs[k].toNat, by omega, by omega⟩
    have hbt := bit_at (z := z) x hz32
    rw [HT1.out x hkx hx hcm] at hbt
    have hbt2 : bits .and .u32 ((z : Int) / 2 ^ x) 1 = 1 := hbt
    rw [hx] at cw0
    have i4 : (k : Int) < (lw : Int) := by omega
    have i5 : ¬ (x : Int) < 0 := by omega
    clear hbt hke hx hcm hkx HT1
    go_wp2_with fail
    go_ret
    exact ⟨rfl, HB10.out⟩
end Go.Proofs.Ytdfhhbncmdpoeaa
