/- SpanTells: the rows of any word, by any grammar, are as the document says. -/
import Derived.Test.YthfhnjoeippenaaSpAwk
import Derived.Test.YthfhnjoeippenaaDOpI
namespace Go.Proofs.Ythfhnjoeippenaa
open Go.RowKit

/-- How many rows there are. -/
def cntR (g : Gr.Gm) (xs : List Int) : Nat := if fitB g xs = true then xs.length + 1 else 0
theorem cntR_le (g : Gr.Gm) (xs : List Int) : cntR g xs ≤ 25 := by
  unfold cntR
  split
  · rename_i h; have := (fit_good h).2.2; omega
  · omega
theorem rd_up {w w' : World} {A : Option Addr} {xs : List Value} (h : Rd w w.heap.size A xs) (hb : Bl w w') : Rd w' w'.heap.size A xs := (h.bl (Nat.le_refl _) hb).more hb.size
theorem prsC_up {w w' : World} {A : Option Addr} {ps : List Gr.Pr} (h : PrsC w w.heap.size A ps) (hb : Bl w w') : PrsC w' w'.heap.size A ps := (h.bl (Nat.le_refl _) hb).more hb.size
/-- What either Rows leaves. -/
def RUni (g : Gr.Gm) (xs : List Int) (w : World) (e : Ending) (w' : World) : Prop := ∃ A c, e = .returned (.slice A (cntR g xs) c) ∧ Rd w' w'.heap.size A (nus (25 * cntR g xs) (allN g xs)) ∧ Bl w w'
theorem RowsPost.uni {g : Gr.Gm} {xs : List Int} {w w' : World} {e : Ending} (h : RowsPost g xs w e w') : RUni g xs w e w' := by
  obtain ⟨h1, h2, h3⟩ := h
  unfold RUni cntR
  cases hf : fitB g xs with
  | true =>
    obtain ⟨b, h4, _, h6⟩ := h1 hf
    rw [if_pos rfl]
    exact ⟨_, _, h4, h6.rd, h3⟩
  | false =>
    rw [if_neg (by decide)]
    exact ⟨none, 0, h2 hf, Rd.nil, h3⟩
theorem RRPost.uni {g : Gr.Gm} {xs : List Int} {w w' : World} {e : Ending} (h : RRPost g xs w e w') : RUni g xs w e w' := by
  obtain ⟨h1, h2, h3⟩ := h
  unfold RUni cntR
  cases hf : fitB g xs with
  | true =>
    obtain ⟨A, c, h4, h6⟩ := h1 hf
    rw [if_pos rfl]
    exact ⟨_, _, h4, h6, h3⟩
  | false =>
    rw [if_neg (by decide)]
    exact ⟨none, 0, h2 hf, Rd.nil, h3⟩
theorem u8_nat {a : Int} (h : (Lit.int .u8 a).wf = true) : ∃ n : Nat, a = (n : Int) ∧ n < 256 := by
  simp [Lit.wf, IntKind.min, IntKind.max, IntKind.bits, IntKind.signed] at h
  exact ⟨a.toNat, by omega, by omega⟩
theorem prs_drewS {w : World} {B : Nat} {A : Option Addr} {ps : List Gr.Pr} (h : Prs w B A ps) : Prs w.drew B A ps := h
theorem prsC_drewS {w : World} {B : Nat} {A : Option Addr} {ps : List Gr.Pr} (h : PrsC w B A ps) : PrsC w.drew B A ps := h
theorem rd_drewS {w : World} {B : Nat} {A : Option Addr} {xs : List Value} (h : Rd w B A xs) : Rd w.drew B A xs := h
theorem sameR_refl (m : Nat) (F : Nat → Nat) : sameR m m F F = true := by
  unfold sameR
  rw [decide_eq_true rfl, Bool.true_and]
  exact sameN_iff.2 fun _ _ => rfl

set_option maxRecDepth 100000 in
set_option maxHeartbeats 8000000 in
theorem spanTells_any (t n s : Int) (A : Option Addr) (len c : Nat) (ps : List Gr.Pr) (Al : Option Addr) (ll cl : Nat) (xs : List Int) (W : World) (hlen : len = ps.length) (hmax : len ≤ 9223372036854775807) (hr : PrsC W W.heap.size A ps)
    (hll : ll = xs.length) (hrl : Rd W W.heap.size Al (ins xs)) (hcl : ll ≤ cl) (hml : ll ≤ 9223372036854775807) :
    Calls Try.prog 3 #[.agg #[.int .i64 t, .int .i64 n, .int .i64 s, .slice A len c], .slice Al ll cl] W fun e w' => e = .returned (.bool true) ∧ Bl W w' := by
  have HB0 : Hid (Bl W (W.alloc (.cells #[.int .i64 t, .int .i64 n, .int .i64 s, .slice A len c] 24))) := (Bl.refl W).alloc _
  have HK0 := Lib.hid (Bk.new W 24 #[.int .i64 t, .int .i64 n, .int .i64 s, .slice A len c])
  have HL := Lib.hid hlen
  have HLL := Lib.hid hll
  have HPc : Hid (∀ w', Bl W w' → PrsC w' w'.heap.size A ps) := fun _ hb => prsC_up hr hb
  have HXc : Hid (∀ w', Bl W w' → Rd w' w'.heap.size Al (ins xs)) := fun _ hb => rd_up hrl hb
  have hc25 := cntR_le ⟨t, n, s, ps⟩ xs
  have HSr := Lib.hid (sameR_refl (cntR ⟨t, n, s, ps⟩ xs) (allN ⟨t, n, s, ps⟩ xs))
  clear hlen hll hr hrl
  go_enter Try.func3, Try.ntmps3
  go_wp2_with fail
  refine (awake16_any _).mono ?_
  rintro e w1 ⟨rfl, hb1⟩
  have HBc := Lib.hid (HB0.out.trans hb1)
  have HKc := Lib.hid (HK0.out.bl hb1)
  clear hb1 HB0 HK0
  cases hl : lg16 ps ll with
  | false =>
    have HLg := Lib.hid hl; clear hl
    have tk1 : True := trivial
    have tk2 : True := trivial
    have tk3 : True := trivial
    have tk4 : True := trivial
    go_wp2_with fail
    go_region_held3 (fun w' => w'.cell? ⟨W.heap.size, 0, none⟩ = some (.int .i64 t) ∧ w'.cell? ⟨W.heap.size, 1, none⟩ = some (.int .i64 n) ∧ w'.cell? ⟨W.heap.size, 2, none⟩ = some (.int .i64 s) ∧ w'.cell? ⟨W.heap.size, 3, none⟩ = some (.slice A len c)) (first | with_reducible exact gcells HKc.out | with_reducible exact gcells HKc.out.drew) (first
      | (go_at_call 7; have _t := tk1; ((with_reducible refine (large16_any t n s A len c ps Al ll cl _ w1.heap.size HL.out hmax hml (prs_drewS (HPc.out w1 HBc.out).prs) (Nat.le_refl _)).mono ?_); rintro e v1 ⟨rfl, hb1⟩; rw [HLg.out]; have HBc := Lib.hid (HBc.out.trans (Bl.undrew hb1)); have HKc := Lib.hid (HKc.out.bl (Bl.undrew hb1)); clear hb1; clear tk1))
      | (go_at_call 10; have _t := tk2; ((with_reducible refine (sprows_any t n s A len c ps Al ll cl xs _ _ HL.out hmax (HPc.out _ HBc.out) HLL.out hml hcl (HXc.out _ HBc.out) (Nat.le_refl _)).mono ?_); intro e v2 h2; obtain ⟨A2, c2, he2, hr2, hb2⟩ := h2.uni; subst he2; have HR2 := Lib.hid hr2; (try have HR4 := Lib.hid (rd_up HR4.out hb2)); have HBc := Lib.hid (HBc.out.trans hb2); have HKc := Lib.hid (HKc.out.bl hb2); clear h2 hr2 hb2; clear tk2))
      | (go_at_call 9; have _t := tk3; ((with_reducible refine (own_any A2 (cntR ⟨t, n, s, ps⟩ xs) c2 (allN ⟨t, n, s, ps⟩ xs) _ _ (Nat.le_trans hc25 (by decide)) HR2.out (Nat.le_refl _)).mono ?_); rintro e v3 ⟨A3, c3, rfl, hr3, hb3⟩; have HR3 := Lib.hid hr3; (try have HR4 := Lib.hid (rd_up HR4.out hb3)); have HBc := Lib.hid (HBc.out.trans hb3); have HKc := Lib.hid (HKc.out.bl hb3); clear hr3 hb3; clear tk3))
      | (go_at_call 11; have _t := tk4; ((with_reducible refine (rrows_any t n s A len c ps Al ll cl xs _ _ HL.out hmax (HPc.out _ HBc.out) HLL.out hml (HXc.out _ HBc.out) (Nat.le_refl _)).mono ?_); intro e v4 h4; obtain ⟨A4, c4, he4, hr4, hb4⟩ := h4.uni; subst he4; have HR4 := Lib.hid hr4; (try have HR2 := Lib.hid (rd_up HR2.out hb4)); (try have HR3 := Lib.hid (rd_up HR3.out hb4)); have HBc := Lib.hid (HBc.out.trans hb4); have HKc := Lib.hid (HKc.out.bl hb4); clear h4 hr4 hb4; clear tk4))
      | (go_at_call 8; ((with_reducible refine (rsame_any A3 A4 (cntR ⟨t, n, s, ps⟩ xs) (cntR ⟨t, n, s, ps⟩ xs) c3 c4 (allN ⟨t, n, s, ps⟩ xs) (allN ⟨t, n, s, ps⟩ xs) _ _ (Nat.le_trans hc25 (by decide)) HR3.out HR4.out).mono ?_); rintro e v5 ⟨rfl, hb5⟩; rw [HSr.out]; have HBc := Lib.hid (HBc.out.trans hb5); have HKc := Lib.hid (HKc.out.bl hb5); clear hb5)))
    all_goals
      go_wp2_with fail
      go_ret
      exact ⟨rfl, HBc.out⟩
  | true =>
    have HLg := Lib.hid hl; clear hl
    go_wp2_with fail
    refine wp_region_held_drew (S := (fun w' => w'.cell? ⟨W.heap.size, 0, none⟩ = some (.int .i64 t) ∧ w'.cell? ⟨W.heap.size, 1, none⟩ = some (.int .i64 n) ∧ w'.cell? ⟨W.heap.size, 2, none⟩ = some (.int .i64 s) ∧ w'.cell? ⟨W.heap.size, 3, none⟩ = some (.slice A len c))) (by kernel_rfl) (gcells HKc.out) (fun hHeld => ?_)
    refine wpAnyH_take (i := 0) (oi := ({ dst := some 7, op := Op.load 24 (Operand.tmp 2), type := 24, pos := "law.go:44", after := #[], guard := none } : Oper)) (v := ?_) rfl (by kernel_rfl) (by kernel_rfl) (by kernel_rfl) (fun _ _ _ h => h) (Or.inl ⟨by rfl, ?_⟩) hHeld ?_
    rotate_left
    · (intro w hSw; (try dsimp only at hSw); go_simp) <;> with_reducible rfl
    try simp only [Act.put, List.setIfInBounds_toArray, List.set_cons_zero, List.set_cons_succ]
    refine wpAnyH_take (i := 1) (oi := ({ dst := some 8, op := Op.move (Operand.tmp 1), type := 25, pos := "law.go:44", after := #[], guard := none } : Oper)) (v := ?_) rfl (by kernel_rfl) (by kernel_rfl) (by kernel_rfl) (fun _ _ _ h => h) (Or.inl ⟨by rfl, ?_⟩) hHeld ?_
    rotate_left
    · (intro w hSw; (try dsimp only at hSw); go_simp) <;> with_reducible rfl
    try simp only [Act.put, List.setIfInBounds_toArray, List.set_cons_zero, List.set_cons_succ]
    refine wpAnyH_ready (rs := [2]) (by kernel_rfl) (by simp) ?_
    refine AllReadyH.cons (o := ({ dst := some 9, op := Op.call { callee := Callee.value (Operand.func 7), args := #[Operand.tmp 7, Operand.tmp 8], argTypes := #[24, 25] }, type := 4, pos := "law.go:44", after := #[{ on := 0, ground := Ground.data }, { on := 1, ground := Ground.data }], guard := none } : Oper)) rfl (fun K hK => ?_) AllReadyH.nil
    go_simp
    ((with_reducible refine (large16_any t n s A len c ps Al ll cl _ w1.heap.size HL.out hmax hml (prs_drewS (HPc.out w1 HBc.out).prs) (Nat.le_refl _)).mono ?_); rintro e v1 ⟨rfl, hb1⟩; rw [HLg.out])
    have HBd := Lib.hid (HBc.out.trans (Bl.undrew hb1))
    have HKd := Lib.hid (HKc.out.bl (Bl.undrew hb1))
    clear hb1
    go_wp2_with fail
    refine hK.out _ _ (gcells HKd.out) (fun hHeld => ?_)
    clear hK K
    try simp only [Act.put, List.setIfInBounds_toArray, List.set_cons_zero, List.set_cons_succ]
    refine wpAnyH_take (i := 3) (oi := ({ dst := some 10, op := Op.move (Operand.tmp 9), type := 4, pos := "law.go:44", after := #[{ on := 2, ground := Ground.data }, { on := 2, ground := Ground.chain }], guard := none } : Oper)) (v := ?_) rfl (by kernel_rfl) (by kernel_rfl) (by kernel_rfl) (fun _ _ _ h => h) (Or.inl ⟨by rfl, ?_⟩) hHeld ?_
    rotate_left
    · (intro w hSw; (try dsimp only at hSw); go_simp) <;> with_reducible rfl
    try simp only [Act.put, List.setIfInBounds_toArray, List.set_cons_zero, List.set_cons_succ]
    refine wpAnyH_take (i := 4) (oi := ({ dst := some 11, op := Op.load 24 (Operand.tmp 2), type := 24, pos := "law.go:44", after := #[{ on := 3, ground := Ground.guard }], guard := some (3, false) } : Oper)) (v := undef) rfl (by kernel_rfl) (by kernel_rfl) (by kernel_rfl) (fun _ _ _ h => h) (Or.inr ⟨by rfl, rfl⟩) hHeld ?_
    try simp only [Act.put, List.setIfInBounds_toArray, List.set_cons_zero, List.set_cons_succ]
    refine wpAnyH_take (i := 5) (oi := ({ dst := some 12, op := Op.move (Operand.tmp 1), type := 25, pos := "law.go:44", after := #[{ on := 3, ground := Ground.guard }], guard := some (3, false) } : Oper)) (v := undef) rfl (by kernel_rfl) (by kernel_rfl) (by kernel_rfl) (fun _ _ _ h => h) (Or.inr ⟨by rfl, rfl⟩) hHeld ?_
    try simp only [Act.put, List.setIfInBounds_toArray, List.set_cons_zero, List.set_cons_succ]
    refine wpAnyH_take (i := 6) (oi := ({ dst := some 13, op := Op.call { callee := Callee.value (Operand.func 10), args := #[Operand.tmp 11, Operand.tmp 12], argTypes := #[24, 25] }, type := 31, pos := "law.go:44", after := #[{ on := 4, ground := Ground.data }, { on := 5, ground := Ground.data }, { on := 3, ground := Ground.chain }, { on := 3, ground := Ground.guard }], guard := some (3, false) } : Oper)) (v := undef) rfl (by kernel_rfl) (by kernel_rfl) (by kernel_rfl) (fun _ _ _ h => h) (Or.inr ⟨by rfl, rfl⟩) hHeld ?_
    try simp only [Act.put, List.setIfInBounds_toArray, List.set_cons_zero, List.set_cons_succ]
    refine wpAnyH_take (i := 7) (oi := ({ dst := some 14, op := Op.call { callee := Callee.value (Operand.func 9), args := #[Operand.tmp 13], argTypes := #[31] }, type := 29, pos := "law.go:44", after := #[{ on := 6, ground := Ground.data }, { on := 6, ground := Ground.chain }, { on := 3, ground := Ground.guard }], guard := some (3, false) } : Oper)) (v := undef) rfl (by kernel_rfl) (by kernel_rfl) (by kernel_rfl) (fun _ _ _ h => h) (Or.inr ⟨by rfl, rfl⟩) hHeld ?_
    try simp only [Act.put, List.setIfInBounds_toArray, List.set_cons_zero, List.set_cons_succ]
    refine wpAnyH_take (i := 8) (oi := ({ dst := some 15, op := Op.load 24 (Operand.tmp 2), type := 24, pos := "law.go:44", after := #[{ on := 3, ground := Ground.guard }], guard := some (3, false) } : Oper)) (v := undef) rfl (by kernel_rfl) (by kernel_rfl) (by kernel_rfl) (fun _ _ _ h => h) (Or.inr ⟨by rfl, rfl⟩) hHeld ?_
    try simp only [Act.put, List.setIfInBounds_toArray, List.set_cons_zero, List.set_cons_succ]
    refine wpAnyH_take (i := 9) (oi := ({ dst := some 16, op := Op.move (Operand.tmp 1), type := 25, pos := "law.go:44", after := #[{ on := 3, ground := Ground.guard }], guard := some (3, false) } : Oper)) (v := undef) rfl (by kernel_rfl) (by kernel_rfl) (by kernel_rfl) (fun _ _ _ h => h) (Or.inr ⟨by rfl, rfl⟩) hHeld ?_
    try simp only [Act.put, List.setIfInBounds_toArray, List.set_cons_zero, List.set_cons_succ]
    refine wpAnyH_take (i := 10) (oi := ({ dst := some 17, op := Op.call { callee := Callee.value (Operand.func 11), args := #[Operand.tmp 15, Operand.tmp 16], argTypes := #[24, 25] }, type := 29, pos := "law.go:44", after := #[{ on := 8, ground := Ground.data }, { on := 9, ground := Ground.data }, { on := 7, ground := Ground.chain }, { on := 3, ground := Ground.guard }], guard := some (3, false) } : Oper)) (v := undef) rfl (by kernel_rfl) (by kernel_rfl) (by kernel_rfl) (fun _ _ _ h => h) (Or.inr ⟨by rfl, rfl⟩) hHeld ?_
    try simp only [Act.put, List.setIfInBounds_toArray, List.set_cons_zero, List.set_cons_succ]
    refine wpAnyH_take (i := 11) (oi := ({ dst := some 18, op := Op.call { callee := Callee.value (Operand.func 8), args := #[Operand.tmp 14, Operand.tmp 17], argTypes := #[29, 29] }, type := 4, pos := "law.go:44", after := #[{ on := 7, ground := Ground.data }, { on := 10, ground := Ground.data }, { on := 10, ground := Ground.chain }, { on := 3, ground := Ground.guard }], guard := some (3, false) } : Oper)) (v := undef) rfl (by kernel_rfl) (by kernel_rfl) (by kernel_rfl) (fun _ _ _ h => h) (Or.inr ⟨by rfl, rfl⟩) hHeld ?_
    try simp only [Act.put, List.setIfInBounds_toArray, List.set_cons_zero, List.set_cons_succ]
    refine wpAnyH_take (i := 12) (oi := ({ dst := some 19, op := Op.pick (Operand.tmp 10) (Operand.const (Value.bool true)) (Operand.tmp 18), type := 4, pos := "law.go:44", after := #[{ on := 3, ground := Ground.data }, { on := 11, ground := Ground.data }], guard := none } : Oper)) (v := ?_) rfl (by kernel_rfl) (by kernel_rfl) (by kernel_rfl) (fun _ _ _ h => h) (Or.inl ⟨by rfl, ?_⟩) hHeld ?_
    rotate_left
    · (intro w hSw; (try dsimp only at hSw); go_simp) <;> with_reducible rfl
    try simp only [Act.put, List.setIfInBounds_toArray, List.set_cons_zero, List.set_cons_succ]
    refine wpAnyH_take (i := 13) (oi := ({ dst := some 4, op := Op.assign (Operand.tmp 19), type := 4, pos := "law.go:44", after := #[{ on := 12, ground := Ground.data }, { on := 11, ground := Ground.chain }, { on := 0, ground := Ground.phase }, { on := 1, ground := Ground.phase }, { on := 2, ground := Ground.phase }, { on := 3, ground := Ground.phase }, { on := 4, ground := Ground.phase }, { on := 5, ground := Ground.phase }, { on := 6, ground := Ground.phase }, { on := 7, ground := Ground.phase }, { on := 8, ground := Ground.phase }, { on := 9, ground := Ground.phase }, { on := 10, ground := Ground.phase }, { on := 11, ground := Ground.phase }, { on := 12, ground := Ground.phase }], guard := none } : Oper)) (v := ?_) rfl (by kernel_rfl) (by kernel_rfl) (by kernel_rfl) (fun _ _ _ h => h) (Or.inl ⟨by rfl, ?_⟩) hHeld ?_
    rotate_left
    · (intro w hSw; (try dsimp only at hSw); go_simp) <;> with_reducible rfl
    try simp only [Act.put, List.setIfInBounds_toArray, List.set_cons_zero, List.set_cons_succ]
    refine wpAnyH_done (by kernel_rfl) ?_ _
    go_wp2_with fail
    go_ret
    exact ⟨rfl, HBd.out⟩
end Go.Proofs.Ythfhnjoeippenaa
