/- FollowTells' contract: what layer 12 tells is what the document says. -/
import Derived.Test.YtgmnokmchjeflaaFoAwake
import Derived.Test.YtgmnokmchjeflaaRFollow
import Derived.Test.YtgmnokmchjeflaaRNums
import Derived.Test.YtgmnokmchjeflaaKLarge
import Derived.Deep.RegionHeld3
namespace Go.Proofs.Ytgmnokmchjeflaa
open Go.RowKit

theorem numsOf_follows (g : Gr.Gm) : numsOf (setsN g) (colWF g) = followsOf g := by
  cases h : okB g with
  | true => rw [setsN_ok h, followsOf_ok h]; rfl
  | false => rw [setsN_no h, followsOf_no h]; rfl

set_option maxRecDepth 100000 in
set_option maxHeartbeats 8000000 in
theorem followTells_any (t n s : Int) (A : Option Addr) (len c : Nat) (ps : List Gr.Pr) (W : World)
    (hlen : len = ps.length) (hmax : len ≤ 9223372036854775807) (hr : PrsC W W.heap.size A ps) :
    Calls Try.prog 3 #[.agg #[.int .i64 t, .int .i64 n, .int .i64 s, .slice A len c]] W fun e w' => e = .returned (.bool true) ∧ Bl W w' := by
  have HL := Lib.hid hlen; clear hlen
  have HP : Hid (∀ w', Bl W w' → PrsC w' w'.heap.size A ps) := fun _ hb => (hr.bl (Nat.le_refl _) hb).more hb.size
  clear hr
  have HB0 : Hid (Bl W (W.alloc (.cells #[.int .i64 t, .int .i64 n, .int .i64 s, .slice A len c] 24))) := (Bl.refl W).alloc _
  have HK0 := Lib.hid (Bk.new W 24 #[.int .i64 t, .int .i64 n, .int .i64 s, .slice A len c])
  go_enter Try.func3, Try.ntmps3
  go_wp2_with fail
  refine (awake12_any _).mono ?_
  rintro e w1 ⟨rfl, hb1⟩
  have HB1 := Lib.hid (HB0.out.trans hb1)
  have HK1 := Lib.hid (HK0.out.bl hb1)
  clear hb1 HB0 HK0
  go_wp2_with fail
  cases hlg : lgB ps with
  | true =>
    have HLg := Lib.hid hlg
    clear hlg
    refine wp_region_held_drew (S := (fun w' => w'.cell? ⟨W.heap.size, 0, none⟩ = some (.int .i64 t) ∧ w'.cell? ⟨W.heap.size, 1, none⟩ = some (.int .i64 n) ∧ w'.cell? ⟨W.heap.size, 2, none⟩ = some (.int .i64 s) ∧ w'.cell? ⟨W.heap.size, 3, none⟩ = some (.slice A len c))) (by kernel_rfl) ⟨HK1.out.cell 0, HK1.out.cell 1, HK1.out.cell 2, HK1.out.cell 3⟩ (fun hHeld => ?_)
    refine wpAnyH_take (i := 0) (oi := ({ dst := some 5, op := Op.load 24 (Operand.tmp 1), type := 24, pos := "law.go:25", after := #[], guard := none } : Oper)) (v := ?_) rfl (by kernel_rfl) (by kernel_rfl) (by kernel_rfl) (fun _ _ _ h => h) (Or.inl ⟨by rfl, ?_⟩) hHeld ?_
    rotate_left
    · (intro w hSw; (try dsimp only at hSw); go_simp) <;> with_reducible rfl
    try simp only [Act.put, List.setIfInBounds_toArray, List.set_cons_zero, List.set_cons_succ]
    refine wpAnyH_ready (rs := [1]) (by kernel_rfl) (by simp) ?_
    refine AllReadyH.cons (o := ({ dst := some 6, op := Op.call { callee := Callee.value (Operand.func 7), args := #[Operand.tmp 5], argTypes := #[24] }, type := 4, pos := "law.go:25", after := #[{ on := 0, ground := Ground.data }], guard := none } : Oper)) rfl (fun K hK => ?_) AllReadyH.nil
    go_simp
    refine (large9_any t n s A len c ps _ w1.heap.size HL.out hmax (prs_drew (HP.out w1 HB1.out).prs) (Nat.le_refl _)).mono ?_
    rintro e w2 ⟨rfl, hb2⟩
    rw [HLg.out]
    have HB2 := Lib.hid (HB1.out.trans (Bl.undrew hb2))
    have HK2 := Lib.hid (HK1.out.bl (Bl.undrew hb2))
    clear hb2
    go_wp2_with fail
    refine hK.out _ _ ⟨HK2.out.cell 0, HK2.out.cell 1, HK2.out.cell 2, HK2.out.cell 3⟩ (fun hHeld => ?_)
    clear hK K
    try simp only [Act.put, List.setIfInBounds_toArray, List.set_cons_zero, List.set_cons_succ]
    refine wpAnyH_take (i := 2) (oi := ({ dst := some 7, op := Op.move (Operand.tmp 6), type := 4, pos := "law.go:25", after := #[{ on := 1, ground := Ground.data }, { on := 1, ground := Ground.chain }], guard := none } : Oper)) (v := ?_) rfl (by kernel_rfl) (by kernel_rfl) (by kernel_rfl) (fun _ _ _ h => h) (Or.inl ⟨by rfl, ?_⟩) hHeld ?_
    rotate_left
    · (intro w hSw; (try dsimp only at hSw); go_simp) <;> with_reducible rfl
    try simp only [Act.put, List.setIfInBounds_toArray, List.set_cons_zero, List.set_cons_succ]
    refine wpAnyH_take (i := 3) (oi := ({ dst := some 8, op := Op.load 24 (Operand.tmp 1), type := 24, pos := "law.go:25", after := #[{ on := 2, ground := Ground.guard }], guard := some (2, false) } : Oper)) (v := undef) rfl (by kernel_rfl) (by kernel_rfl) (by kernel_rfl) (fun _ _ _ h => h) (Or.inr ⟨by rfl, rfl⟩) hHeld ?_
    try simp only [Act.put, List.setIfInBounds_toArray, List.set_cons_zero, List.set_cons_succ]
    refine wpAnyH_take (i := 4) (oi := ({ dst := some 9, op := Op.call { callee := Callee.value (Operand.func 9), args := #[Operand.tmp 8], argTypes := #[24] }, type := 28, pos := "law.go:25", after := #[{ on := 3, ground := Ground.data }, { on := 2, ground := Ground.chain }, { on := 2, ground := Ground.guard }], guard := some (2, false) } : Oper)) (v := undef) rfl (by kernel_rfl) (by kernel_rfl) (by kernel_rfl) (fun _ _ _ h => h) (Or.inr ⟨by rfl, rfl⟩) hHeld ?_
    try simp only [Act.put, List.setIfInBounds_toArray, List.set_cons_zero, List.set_cons_succ]
    refine wpAnyH_take (i := 5) (oi := ({ dst := some 10, op := Op.load 24 (Operand.tmp 1), type := 24, pos := "law.go:25", after := #[{ on := 2, ground := Ground.guard }], guard := some (2, false) } : Oper)) (v := undef) rfl (by kernel_rfl) (by kernel_rfl) (by kernel_rfl) (fun _ _ _ h => h) (Or.inr ⟨by rfl, rfl⟩) hHeld ?_
    try simp only [Act.put, List.setIfInBounds_toArray, List.set_cons_zero, List.set_cons_succ]
    refine wpAnyH_take (i := 6) (oi := ({ dst := some 11, op := Op.call { callee := Callee.value (Operand.func 11), args := #[Operand.tmp 10], argTypes := #[24] }, type := 31, pos := "law.go:25", after := #[{ on := 5, ground := Ground.data }, { on := 4, ground := Ground.chain }, { on := 2, ground := Ground.guard }], guard := some (2, false) } : Oper)) (v := undef) rfl (by kernel_rfl) (by kernel_rfl) (by kernel_rfl) (fun _ _ _ h => h) (Or.inr ⟨by rfl, rfl⟩) hHeld ?_
    try simp only [Act.put, List.setIfInBounds_toArray, List.set_cons_zero, List.set_cons_succ]
    refine wpAnyH_take (i := 7) (oi := ({ dst := some 12, op := Op.call { callee := Callee.value (Operand.func 10), args := #[Operand.tmp 11], argTypes := #[31] }, type := 28, pos := "law.go:25", after := #[{ on := 6, ground := Ground.data }, { on := 6, ground := Ground.chain }, { on := 2, ground := Ground.guard }], guard := some (2, false) } : Oper)) (v := undef) rfl (by kernel_rfl) (by kernel_rfl) (by kernel_rfl) (fun _ _ _ h => h) (Or.inr ⟨by rfl, rfl⟩) hHeld ?_
    try simp only [Act.put, List.setIfInBounds_toArray, List.set_cons_zero, List.set_cons_succ]
    refine wpAnyH_take (i := 8) (oi := ({ dst := some 13, op := Op.call { callee := Callee.value (Operand.func 8), args := #[Operand.tmp 9, Operand.tmp 12], argTypes := #[28, 28] }, type := 4, pos := "law.go:25", after := #[{ on := 4, ground := Ground.data }, { on := 7, ground := Ground.data }, { on := 7, ground := Ground.chain }, { on := 2, ground := Ground.guard }], guard := some (2, false) } : Oper)) (v := undef) rfl (by kernel_rfl) (by kernel_rfl) (by kernel_rfl) (fun _ _ _ h => h) (Or.inr ⟨by rfl, rfl⟩) hHeld ?_
    try simp only [Act.put, List.setIfInBounds_toArray, List.set_cons_zero, List.set_cons_succ]
    refine wpAnyH_take (i := 9) (oi := ({ dst := some 14, op := Op.pick (Operand.tmp 7) (Operand.const (Value.bool true)) (Operand.tmp 13), type := 4, pos := "law.go:25", after := #[{ on := 2, ground := Ground.data }, { on := 8, ground := Ground.data }], guard := none } : Oper)) (v := ?_) rfl (by kernel_rfl) (by kernel_rfl) (by kernel_rfl) (fun _ _ _ h => h) (Or.inl ⟨by rfl, ?_⟩) hHeld ?_
    rotate_left
    · (intro w hSw; (try dsimp only at hSw); go_simp) <;> with_reducible rfl
    try simp only [Act.put, List.setIfInBounds_toArray, List.set_cons_zero, List.set_cons_succ]
    refine wpAnyH_take (i := 10) (oi := ({ dst := some 2, op := Op.assign (Operand.tmp 14), type := 4, pos := "law.go:25", after := #[{ on := 9, ground := Ground.data }, { on := 8, ground := Ground.chain }, { on := 0, ground := Ground.phase }, { on := 1, ground := Ground.phase }, { on := 2, ground := Ground.phase }, { on := 3, ground := Ground.phase }, { on := 4, ground := Ground.phase }, { on := 5, ground := Ground.phase }, { on := 6, ground := Ground.phase }, { on := 7, ground := Ground.phase }, { on := 8, ground := Ground.phase }, { on := 9, ground := Ground.phase }], guard := none } : Oper)) (v := ?_) rfl (by kernel_rfl) (by kernel_rfl) (by kernel_rfl) (fun _ _ _ h => h) (Or.inl ⟨by rfl, ?_⟩) hHeld ?_
    rotate_left
    · (intro w hSw; (try dsimp only at hSw); go_simp) <;> with_reducible rfl
    try simp only [Act.put, List.setIfInBounds_toArray, List.set_cons_zero, List.set_cons_succ]
    refine wpAnyH_done (by kernel_rfl) ?_ _
    go_wp2_with fail
    go_ret
    exact ⟨rfl, HB2.out⟩
  | false =>
    have HLg := Lib.hid hlg
    clear hlg
    have hs24 : setsN ⟨t, n, s, ps⟩ ≤ 1000000 := by
      have h := followsOf_short ⟨t, n, s, ps⟩
      rw [← numsOf_len (setsN ⟨t, n, s, ps⟩) (colWF ⟨t, n, s, ps⟩), numsOf_follows]; omega
    have hn24 := followsOf_short ⟨t, n, s, ps⟩
    have HPc : Hid (∀ w', Bl w1 w' → PrsC w' w'.heap.size A ps) := fun _ hb => HP.out _ (HB1.out.trans hb)
    have HKc := Lib.hid HK1.out
    have HBc := Lib.hid (Bl.refl w1)
    have tk0 : True := trivial
    have tk1 : True := trivial
    have tk2 : True := trivial
    have tk3 : True := trivial
    have tk4 : True := trivial
    go_region_held3 (fun w' => w'.cell? ⟨W.heap.size, 0, none⟩ = some (.int .i64 t) ∧ w'.cell? ⟨W.heap.size, 1, none⟩ = some (.int .i64 n) ∧ w'.cell? ⟨W.heap.size, 2, none⟩ = some (.int .i64 s) ∧ w'.cell? ⟨W.heap.size, 3, none⟩ = some (.slice A len c)) (exact ⟨HKc.out.cell 0, HKc.out.cell 1, HKc.out.cell 2, HKc.out.cell 3⟩) (first
      | (go_at_call 7; have _t := tk0; ((with_reducible refine (large9_any t n s A len c ps _ w1.heap.size HL.out hmax (prs_drew (HPc.out w1 (Bl.refl w1)).prs) (Nat.le_refl _)).mono ?_); rintro e v0 ⟨rfl, hb0⟩; rw [HLg.out]; have HBc := Lib.hid (Bl.undrew hb0); have HKc := Lib.hid (HKc.out.bl (Bl.undrew hb0)); clear hb0; clear tk0))
      | (go_at_call 9; have _t := tk1; ((with_reducible refine (follow_any t n s A len c ps _ v0.heap.size HL.out hmax (HPc.out v0 HBc.out) (Nat.le_refl _)).mono ?_); intro e v1 h1; obtain ⟨A1, c1, he1, hr1, hb1⟩ := h1.lit rfl rfl; subst he1; have H1 := Lib.hid hr1; have HBc := Lib.hid (HBc.out.trans hb1); have HKc := Lib.hid (HKc.out.bl hb1); clear h1 hr1 hb1; clear tk1))
      | (go_at_call 11; have _t := tk2; ((with_reducible refine (rfollow_any t n s A len c ps _ v1.heap.size HL.out hmax (HPc.out v1 HBc.out) (Nat.le_refl _)).mono ?_); intro e v2 h2; obtain ⟨A2, c2, he2, hr2, hb2⟩ := h2.lit rfl; subst he2; have H2 := Lib.hid hr2; have H1 := Lib.hid (rd_on H1.out hb2); have HBc := Lib.hid (HBc.out.trans hb2); have HKc := Lib.hid (HKc.out.bl hb2); clear h2 hr2 hb2; clear tk2))
      | (go_at_call 10; have _t := tk3; ((with_reducible refine (numbers_any A2 _ c2 (colWF ⟨t, n, s, ps⟩) _ v2.heap.size hs24 H2.out (Nat.le_refl _)).mono ?_); intro e v3 h3; obtain ⟨A3, c3, he3, hr3, hb3⟩ := h3.lit (numsOf_follows ⟨t, n, s, ps⟩) rfl; subst he3; have H3 := Lib.hid hr3; have H1 := Lib.hid (rd_on H1.out hb3); have HBc := Lib.hid (HBc.out.trans hb3); have HKc := Lib.hid (HKc.out.bl hb3); clear h3 hr3 hb3; clear tk3))
      | (go_at_call 8; have _t := tk4; ((with_reducible refine (usame_any A1 A3 _ _ c1 c3 (followsOf ⟨t, n, s, ps⟩) (followsOf ⟨t, n, s, ps⟩) _ v3.heap.size rfl rfl (by omega) H1.out H3.out).mono ?_); rintro e v4 ⟨rfl, hb4⟩; rw [decide_eq_true rfl]; have HBc := Lib.hid (HBc.out.trans hb4); have HKc := Lib.hid (HKc.out.bl hb4); clear hb4; clear tk4)))
    go_wp2_with fail
    go_ret
    exact ⟨rfl, HB1.out.trans HBc.out⟩
end Go.Proofs.Ytgmnokmchjeflaa
