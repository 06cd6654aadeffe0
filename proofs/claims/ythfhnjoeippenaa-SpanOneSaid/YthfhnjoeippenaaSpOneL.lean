/- SpanOne: the row of a word hangs on nothing but that word. -/
import Derived.Test.YthfhnjoeippenaaSpTells
namespace Go.Proofs.Ythfhnjoeippenaa
open Go.RowKit

theorem row_size' : (Try.prog.info? 37).map (·.size) = some 25 := row_size
/-- Rows behind a place, as a slice. -/
theorem rows_tail (b m k : Nat) (x : Int) (hx : x = (k : Int)) (hk : k ≤ m) : ∃ A2, (∀ wx : World, (Instr.slice 31 (.slice (some ⟨b, 0, none⟩) m m) (some (.int .i64 x)) none none).run Try.prog wx = .ok (.slice A2 (m - k) (m - k)) wx) ∧
    ∀ (w : World) (F : Nat → Nat), Wn 37 w b (25 * m) F → Rd w w.heap.size A2 (nus (25 * (m - k)) (fun i => F (25 * k + i))) := by
  refine ⟨_, fun wx => run_slice_tail (P := Try.prog) Try.underlying31 row_size (some ⟨b, 0, none⟩) m m k x hx hk wx, fun w F h => h.rd.nus_cut (Nat.le_refl _) hk⟩
theorem s1_s {w' : World} {gg b1 k N len c : Nat} {t n s : Int} {A : Option Addr} {F : Nat → Nat} (hk : Bk w' gg 24 #[.int .i64 t, .int .i64 n, .int .i64 s, .slice A len c]) (hn : Wn 37 w' b1 N F) (hN : 25 * k + 25 ≤ N) :
    w'.cell? ⟨gg, 0, none⟩ = some (.int .i64 t) ∧ w'.cell? ⟨gg, 1, none⟩ = some (.int .i64 n) ∧ w'.cell? ⟨gg, 2, none⟩ = some (.int .i64 s) ∧ w'.cell? ⟨gg, 3, none⟩ = some (.slice A len c) ∧ Hid (∀ i, i < 25 → w'.cell? ⟨b1, k * 25 + i, none⟩ = some (.int .u32 (F (25 * k + i) : Int))) :=
  ⟨hk.cell 0, hk.cell 1, hk.cell 2, hk.cell 3, fun i hi => by rw [show k * 25 + i = 25 * k + i by omega]; exact hn.cell (by omega)⟩
theorem word_tail (A : Option Addr) (ll cl k : Nat) (hk : k ≤ ll) (hc : ll ≤ cl) : ∃ A2, (∀ wx : World, (Instr.slice 25 (.slice A ll cl) (some (.int .i64 (k : Int))) none none).run Try.prog wx = .ok (.slice A2 (ll - k) (cl - k)) wx) ∧
    ∀ (w : World) (B : Nat) (xs : List Int), xs.length = ll → Rd w B A (ins xs) → Rd w B A2 (ins (xs.drop k)) := by
  refine ⟨_, fun wx => run_slice_tail (P := Try.prog) Try.underlying25 int_size A ll cl k (k : Int) rfl hk wx, fun w B xs hx h => h.ins_cut (by omega)⟩

set_option maxRecDepth 100000 in
set_option maxHeartbeats 8000000 in
theorem spanOne_any (t n s : Int) (A : Option Addr) (len c : Nat) (ps : List Gr.Pr) (Al : Option Addr) (ll cl : Nat) (xs : List Int) (v : Nat) (W : World) (hlen : len = ps.length) (hmax : len ≤ 9223372036854775807) (hr : PrsC W W.heap.size A ps)
    (hll : ll = xs.length) (hrl : Rd W W.heap.size Al (ins xs)) (hcl : ll ≤ cl) (hml : ll ≤ 9223372036854775807) (hv : v < 256) :
    Calls Try.prog 4 #[.agg #[.int .i64 t, .int .i64 n, .int .i64 s, .slice A len c], .slice Al ll cl, .int .u8 (v : Int)] W fun e w' => e = .returned (.bool true) ∧ Bl W w' := by
  have HB0 : Hid (Bl W (W.alloc (.cells #[.int .i64 t, .int .i64 n, .int .i64 s, .slice A len c] 24))) := (Bl.refl W).alloc _
  have HK0 := Lib.hid (Bk.new W 24 #[.int .i64 t, .int .i64 n, .int .i64 s, .slice A len c])
  have HL := Lib.hid hlen
  have HLL := Lib.hid hll
  have HPc : Hid (∀ w', Bl W w' → PrsC w' w'.heap.size A ps) := fun _ hb => prsC_up hr hb
  have HXc : Hid (∀ w', Bl W w' → Rd w' w'.heap.size Al (ins xs)) := fun _ hb => rd_up hrl hb
  clear hlen hll hr hrl
  go_enter Try.func4, Try.ntmps4
  go_wp2_with fail
  refine (awake16_any _).mono ?_
  rintro e w1 ⟨rfl, hb1⟩
  have HB1 := Lib.hid (HB0.out.trans hb1)
  have HK1 := Lib.hid (HK0.out.bl hb1)
  clear hb1 HB0 HK0
  have k0 : w1.cell? ⟨W.heap.size, 0, none⟩ = some (.int .i64 t) := HK1.out.cell 0
  have k1 : w1.cell? ⟨W.heap.size, 1, none⟩ = some (.int .i64 n) := HK1.out.cell 1
  have k2 : w1.cell? ⟨W.heap.size, 2, none⟩ = some (.int .i64 s) := HK1.out.cell 2
  have k3 : w1.cell? ⟨W.heap.size, 3, none⟩ = some (.slice A len c) := HK1.out.cell 3
  have kl := HK1.out.lt
  go_wp2_with fail
  refine (large16_any t n s A len c ps Al ll cl w1 w1.heap.size HL.out hmax hml (HPc.out w1 HB1.out).prs (Nat.le_refl _)).mono ?_
  rintro e w2 ⟨rfl, hb2⟩
  have HB2 := Lib.hid (HB1.out.trans hb2)
  have HK2 := Lib.hid (HK1.out.bl hb2)
  clear hb2 HB1 HK1 k0 k1 k2 k3 kl
  cases hl : lg16 ps ll with
  | true =>
    go_wp2_with fail
    go_ret
    exact ⟨rfl, HB2.out⟩
  | false =>
  clear hl
  have k0 : w2.cell? ⟨W.heap.size, 0, none⟩ = some (.int .i64 t) := HK2.out.cell 0
  have k1 : w2.cell? ⟨W.heap.size, 1, none⟩ = some (.int .i64 n) := HK2.out.cell 1
  have k2 : w2.cell? ⟨W.heap.size, 2, none⟩ = some (.int .i64 s) := HK2.out.cell 2
  have k3 : w2.cell? ⟨W.heap.size, 3, none⟩ = some (.slice A len c) := HK2.out.cell 3
  have kl := HK2.out.lt
  go_wp2_with fail
  refine (sprows_any t n s A len c ps Al ll cl xs w2 w2.heap.size HL.out hmax (HPc.out w2 HB2.out) HLL.out hml hcl (HXc.out w2 HB2.out) (Nat.le_refl _)).mono ?_
  intro e w3 hp3
  cases hf : fitB ⟨t, n, s, ps⟩ xs with
  | false =>
    obtain ⟨he, hb3⟩ := hp3.no hf
    subst he
    have HF := Lib.hid hf
    have HB3 := Lib.hid (HB2.out.trans hb3)
    have HK3 := Lib.hid (HK2.out.bl hb3)
    clear hp3 hb3 hf HB2 HK2 k0 k1 k2 k3 kl
    have k0 : w3.cell? ⟨W.heap.size, 0, none⟩ = some (.int .i64 t) := HK3.out.cell 0
    have k1 : w3.cell? ⟨W.heap.size, 1, none⟩ = some (.int .i64 n) := HK3.out.cell 1
    have k2 : w3.cell? ⟨W.heap.size, 2, none⟩ = some (.int .i64 s) := HK3.out.cell 2
    have k3 : w3.cell? ⟨W.heap.size, 3, none⟩ = some (.slice A len c) := HK3.out.cell 3
    have kl := HK3.out.lt
    go_wp2_with fail
    refine (rfit_any t n s A len c ps Al ll cl xs w3 w3.heap.size HL.out hmax (HPc.out w3 HB3.out).prs HLL.out hml (HXc.out w3 HB3.out) (Nat.le_refl _)).mono ?_
    rintro e w4 ⟨rfl, hb4⟩
    rw [HF.out]
    have HB4 := Lib.hid (HB3.out.trans hb4)
    clear hb4
    go_wp2_with fail
    go_ret
    exact ⟨rfl, HB4.out⟩
  | true =>
    obtain ⟨b1, he, _, hn1, hb3⟩ := hp3.lit (m := ll + 1) hf (by rw [HLL.out])
    subst he
    have hl24 : ll ≤ 24 := by have h := (fit_good hf).2.2; have := HLL.out; omega
    have HF := Lib.hid hf
    have HN3 := Lib.hid hn1
    have HB3 := Lib.hid (HB2.out.trans hb3)
    have HK3 := Lib.hid (HK2.out.bl hb3)
    clear hp3 hb3 hf hn1 HB2 HK2 k0 k1 k2 k3 kl
    obtain ⟨k, hk⟩ : ∃ k : Nat, k = v % (ll + 1) := ⟨_, rfl⟩
    have hkl : k ≤ ll := by have := Nat.mod_lt v (show 0 < ll + 1 by omega); omega
    have hrem : Int.tmod (v : Int) ((ll : Int) + 1) = (k : Int) := by rw [hk, Int.tmod_eq_emod_of_nonneg (by omega)]; rfl
    have hrem2 : (v : Int) % ((ll : Int) + 1) = (k : Int) := by rw [hk]; rfl
    clear hk
    have q1 : (((ll : Int) + 1) == 0) = false := by rw [beq_eq_false_iff_ne]; omega
    have q2 : ¬ ((ll : Int) + 1 = 0) := by omega
    obtain ⟨A2, hsl, HX2⟩ := word_tail Al ll cl k hkl hcl
    have HX2 := Lib.hid HX2
    have tk1 : True := trivial
    have HKc := Lib.hid HK3.out
    go_wp2_with fail
    have hdl : (xs.drop k).length = ll - k := by rw [List.length_drop, ← HLL.out]
    have HLd : Hid (ll - k = (xs.drop k).length) := hdl.symm
    have HFd : Hid (fitB ⟨t, n, s, ps⟩ (xs.drop k) = true) := fitB_sub HF.out (fun x hx => List.mem_of_mem_drop hx) (by rw [List.length_drop]; omega)
    clear hdl
    go_region_held3 (fun w' => w'.cell? ⟨W.heap.size, 0, none⟩ = some (.int .i64 t) ∧ w'.cell? ⟨W.heap.size, 1, none⟩ = some (.int .i64 n) ∧ w'.cell? ⟨W.heap.size, 2, none⟩ = some (.int .i64 s) ∧ w'.cell? ⟨W.heap.size, 3, none⟩ = some (.slice A len c)) (first | with_reducible exact gcells HKc.out | with_reducible exact gcells HKc.out.drew) (first
      | (go_at_call 10; have _t := tk1; ((with_reducible refine (sprows_any t n s A len c ps A2 (ll - k) (cl - k) (xs.drop k) _ w3.heap.size HL.out hmax (prsC_drewS (HPc.out w3 HB3.out)) HLd.out (by omega) (by omega) (rd_drewS (HX2.out _ _ xs HLL.out.symm (HXc.out w3 HB3.out))) (Nat.le_refl _)).mono ?_); intro e w4 hp4; obtain ⟨b2, he, _, hn4, hb4⟩ := hp4.lit (m := ll - k + 1) HFd.out (by rw [← HLd.out]); subst he; have HN24 := Lib.hid hn4; have HB34 := Lib.hid (Bl.undrew hb4); have HKc := Lib.hid (HKc.out.bl HB34.out); clear hp4 hn4 hb4; clear tk1)))
    have HB4 := Lib.hid (HB3.out.trans HB34.out)
    have HK4 := Lib.hid HKc.out
    have HN14 := Lib.hid (HN3.out.bl HB34.out)
    obtain ⟨A3, hsl3, HX3⟩ := rows_tail b1 (ll + 1) k (k : Int) rfl (by omega)
    obtain ⟨A4, hsl4, HX4⟩ := rows_tail b1 (ll + 1) (k + 1) ((k : Int) + 1) rfl (by omega)
    rw [show ll + 1 - (k + 1) = ll - k by omega] at hsl4 HX4
    have HMc : Hid (∀ w', Bl w4 w' → Rd w' w'.heap.size (some ⟨b2, 0, none⟩) (nus (25 * (ll - k + 1)) (allN ⟨t, n, s, ps⟩ (xs.drop k)))) := fun w' hb => (HN24.out.bl hb).rd
    have HLc : Hid (∀ w', Bl w4 w' → Rd w' w'.heap.size A3 (nus (25 * (ll + 1 - k)) (fun i => allN ⟨t, n, s, ps⟩ xs (25 * k + i)))) := fun w' hb => HX3 _ _ (HN14.out.bl hb)
    have HOc : Hid (∀ w', Bl w4 w' → Rd w' w'.heap.size A4 (nus (25 * (ll - k)) (fun i => allN ⟨t, n, s, ps⟩ (xs.drop k) (25 + i)))) := fun w' hb => by
      have h := HX4 _ _ (HN14.out.bl hb)
      rwa [nus_congr (fun i _ => show allN ⟨t, n, s, ps⟩ xs (25 * (k + 1) + i) = allN ⟨t, n, s, ps⟩ (xs.drop k) (25 + i) by rw [allN_drop, show 25 * (k + 1) + i = 25 * k + (25 + i) by omega])] at h
    have HSm : Hid (sameR (ll - k + 1) (ll + 1 - k) (allN ⟨t, n, s, ps⟩ (xs.drop k)) (fun i => allN ⟨t, n, s, ps⟩ xs (25 * k + i)) = true) := by
      unfold Hid sameR
      rw [decide_eq_true (show ll - k + 1 = ll + 1 - k by omega), Bool.true_and]
      exact sameN_iff.2 fun i _ => allN_drop _ _ _ _
    have HSq : Hid (sameN 25 (Sp.rowN ⟨t, n, s, ps⟩ (xs.drop k)) (fun i => allN ⟨t, n, s, ps⟩ xs (25 * k + i)) = true) := sameN_iff.2 fun i hi => (allN_at _ _ hi).symm
    have hkb : 25 * k + 25 ≤ 25 * (ll + 1) := by omega
    have HBc : Hid (Bl w4 w4.drew) := (Bl.refl w4).drew
    have hwk : IntKind.i64.wrap ((k : Int) + 1) = (k : Int) + 1 := by simp [IntKind.wrap, IntKind.bits, IntKind.signed]; omega
    have hzi : (Try.prog.info? 37).map (·.size) = some 25 := row_size
    have hgt : Try.prog.eqGuardType Try.prog.depth 37 = false := by kernel_rfl
    have j1 : (k : Int) < (ll : Int) + 1 := by omega
    have j2 : (0 : Int) ≤ (k : Int) := by omega
    clear HX3 HX4
    go_wp2_with fail
    refine wp_region_held_drew (S := (fun w' => w'.cell? ⟨W.heap.size, 0, none⟩ = some (.int .i64 t) ∧ w'.cell? ⟨W.heap.size, 1, none⟩ = some (.int .i64 n) ∧ w'.cell? ⟨W.heap.size, 2, none⟩ = some (.int .i64 s) ∧ w'.cell? ⟨W.heap.size, 3, none⟩ = some (.slice A len c) ∧ Hid (∀ i, i < 25 → w'.cell? ⟨b1, k * 25 + i, none⟩ = some (.int .u32 (allN ⟨t, n, s, ps⟩ xs (25 * k + i) : Int))))) (by kernel_rfl) (s1_s HK4.out HN14.out hkb) (fun hHeld => ?_)
    refine wpAnyH_take (i := 0) (oi := ({ dst := some 41, op := Op.move (Operand.tmp 9), type := 31, pos := "law.go:64", after := #[], guard := none } : Oper)) (v := ?_) rfl (by kernel_rfl) (by kernel_rfl) (by kernel_rfl) (fun _ _ _ h => h) (Or.inl ⟨by rfl, ?_⟩) hHeld ?_
    rotate_left
    · (intro w hSw; (try dsimp only at hSw); go_simp) <;> with_reducible rfl
    try simp only [Act.put, List.setIfInBounds_toArray, List.set_cons_zero, List.set_cons_succ]
    refine wpAnyH_take (i := 2) (oi := ({ dst := some 43, op := Op.move (Operand.tmp 7), type := 31, pos := "law.go:64", after := #[], guard := none } : Oper)) (v := ?_) rfl (by kernel_rfl) (by kernel_rfl) (by kernel_rfl) (fun _ _ _ h => h) (Or.inl ⟨by rfl, ?_⟩) hHeld ?_
    rotate_left
    · (intro w hSw; (try dsimp only at hSw); go_simp) <;> with_reducible rfl
    try simp only [Act.put, List.setIfInBounds_toArray, List.set_cons_zero, List.set_cons_succ]
    refine wpAnyH_take (i := 3) (oi := ({ dst := some 44, op := Op.move (Operand.tmp 8), type := 3, pos := "law.go:64", after := #[], guard := none } : Oper)) (v := ?_) rfl (by kernel_rfl) (by kernel_rfl) (by kernel_rfl) (fun _ _ _ h => h) (Or.inl ⟨by rfl, ?_⟩) hHeld ?_
    rotate_left
    · (intro w hSw; (try dsimp only at hSw); go_simp) <;> with_reducible rfl
    try simp only [Act.put, List.setIfInBounds_toArray, List.set_cons_zero, List.set_cons_succ]
    refine wpAnyH_take (i := 4) (oi := ({ dst := some 45, op := Op.slice 31 (Operand.tmp 43) (some (Operand.tmp 44)) none none, type := 31, pos := "law.go:64", after := #[{ on := 2, ground := Ground.data }, { on := 3, ground := Ground.data }], guard := none } : Oper)) (v := ?_) rfl (by kernel_rfl) (by kernel_rfl) (by kernel_rfl) (fun _ _ _ h => h) (Or.inl ⟨by rfl, ?_⟩) hHeld ?_
    rotate_left
    · (intro w hSw; (try dsimp only at hSw); go_simp) <;> with_reducible rfl
    try simp only [Act.put, List.setIfInBounds_toArray, List.set_cons_zero, List.set_cons_succ]
    refine wpAnyH_ready (rs := [1]) (by kernel_rfl) (by simp) ?_
    refine AllReadyH.cons (o := ({ dst := some 42, op := Op.call { callee := Callee.value (Operand.func 9), args := #[Operand.tmp 41], argTypes := #[31] }, type := 29, pos := "law.go:64", after := #[{ on := 0, ground := Ground.data }], guard := none } : Oper)) rfl (fun K hK => ?_) (AllReadyH.nil)
    go_simp
    ((with_reducible refine (own_any (some ⟨b2, 0, none⟩) (ll - k + 1) (ll - k + 1) (allN ⟨t, n, s, ps⟩ (xs.drop k)) _ _ (by omega) (HMc.out _ HBc.out) (Nat.le_refl _)).mono ?_); rintro e va ⟨Aa, ca, rfl, hra, hba⟩)
    have HRa := Lib.hid hra
    (try have HRb := Lib.hid (rd_up HRb.out hba))
    have HBc := Lib.hid (HBc.out.trans hba)
    clear hra hba
    go_wp2_with fail
    refine hK.out _ _ (s1_s (HK4.out.bl HBc.out) (HN14.out.bl HBc.out) hkb) (fun hHeld => ?_)
    clear hK K
    try simp only [Act.put, List.setIfInBounds_toArray, List.set_cons_zero, List.set_cons_succ]
    refine wpAnyH_ready (rs := [5]) (by kernel_rfl) (by simp) ?_
    refine AllReadyH.cons (o := ({ dst := some 46, op := Op.call { callee := Callee.value (Operand.func 9), args := #[Operand.tmp 45], argTypes := #[31] }, type := 29, pos := "law.go:64", after := #[{ on := 4, ground := Ground.data }, { on := 1, ground := Ground.chain }], guard := none } : Oper)) rfl (fun K hK => ?_) (AllReadyH.nil)
    go_simp
    ((with_reducible refine (own_any A3 (ll + 1 - k) (ll + 1 - k) (fun i => allN ⟨t, n, s, ps⟩ xs (25 * k + i)) _ _ (by omega) (HLc.out _ HBc.out) (Nat.le_refl _)).mono ?_); rintro e vb ⟨Ab, cb, rfl, hrb, hbb⟩)
    have HRb := Lib.hid hrb
    (try have HRa := Lib.hid (rd_up HRa.out hbb))
    have HBc := Lib.hid (HBc.out.trans hbb)
    clear hrb hbb
    go_wp2_with fail
    refine hK.out _ _ (s1_s (HK4.out.bl HBc.out) (HN14.out.bl HBc.out) hkb) (fun hHeld => ?_)
    clear hK K
    try simp only [Act.put, List.setIfInBounds_toArray, List.set_cons_zero, List.set_cons_succ]
    refine wpAnyH_ready (rs := [6]) (by kernel_rfl) (by simp) ?_
    refine AllReadyH.cons (o := ({ dst := some 47, op := Op.call { callee := Callee.value (Operand.func 8), args := #[Operand.tmp 42, Operand.tmp 46], argTypes := #[29, 29] }, type := 4, pos := "law.go:64", after := #[{ on := 1, ground := Ground.data }, { on := 5, ground := Ground.data }, { on := 5, ground := Ground.chain }], guard := none } : Oper)) rfl (fun K hK => ?_) (AllReadyH.nil)
    go_simp
    ((with_reducible refine (rsame_any Aa Ab (ll - k + 1) (ll + 1 - k) ca cb (allN ⟨t, n, s, ps⟩ (xs.drop k)) (fun i => allN ⟨t, n, s, ps⟩ xs (25 * k + i)) _ _ (by omega) HRa.out HRb.out).mono ?_); rintro e vs ⟨rfl, hbs⟩; rw [HSm.out])
    have HBc := Lib.hid (HBc.out.trans hbs)
    clear hbs
    go_wp2_with fail
    refine hK.out _ _ (s1_s (HK4.out.bl HBc.out) (HN14.out.bl HBc.out) hkb) (fun hHeld => ?_)
    clear hK K
    try simp only [Act.put, List.setIfInBounds_toArray, List.set_cons_zero, List.set_cons_succ]
    refine wpAnyH_take (i := 7) (oi := ({ dst := some 48, op := Op.move (Operand.tmp 47), type := 4, pos := "law.go:64", after := #[{ on := 6, ground := Ground.data }, { on := 6, ground := Ground.chain }], guard := none } : Oper)) (v := ?_) rfl (by kernel_rfl) (by kernel_rfl) (by kernel_rfl) (fun _ _ _ h => h) (Or.inl ⟨by rfl, ?_⟩) hHeld ?_
    rotate_left
    · (intro w hSw; (try dsimp only at hSw); go_simp) <;> with_reducible rfl
    try simp only [Act.put, List.setIfInBounds_toArray, List.set_cons_zero, List.set_cons_succ]
    refine wpAnyH_take (i := 8) (oi := ({ dst := some 49, op := Op.load 24 (Operand.tmp 3), type := 24, pos := "law.go:64", after := #[{ on := 7, ground := Ground.guard }], guard := some (7, true) } : Oper)) (v := ?_) rfl (by kernel_rfl) (by kernel_rfl) (by kernel_rfl) (fun _ _ _ h => h) (Or.inl ⟨by rfl, ?_⟩) hHeld ?_
    rotate_left
    · (intro w hSw; (try dsimp only at hSw); go_simp) <;> with_reducible rfl
    try simp only [Act.put, List.setIfInBounds_toArray, List.set_cons_zero, List.set_cons_succ]
    refine wpAnyH_take (i := 9) (oi := ({ dst := some 50, op := Op.move (Operand.tmp 1), type := 25, pos := "law.go:64", after := #[{ on := 7, ground := Ground.guard }], guard := some (7, true) } : Oper)) (v := ?_) rfl (by kernel_rfl) (by kernel_rfl) (by kernel_rfl) (fun _ _ _ h => h) (Or.inl ⟨by rfl, ?_⟩) hHeld ?_
    rotate_left
    · (intro w hSw; (try dsimp only at hSw); go_simp) <;> with_reducible rfl
    try simp only [Act.put, List.setIfInBounds_toArray, List.set_cons_zero, List.set_cons_succ]
    refine wpAnyH_take (i := 10) (oi := ({ dst := some 51, op := Op.move (Operand.tmp 8), type := 3, pos := "law.go:64", after := #[{ on := 7, ground := Ground.guard }], guard := some (7, true) } : Oper)) (v := ?_) rfl (by kernel_rfl) (by kernel_rfl) (by kernel_rfl) (fun _ _ _ h => h) (Or.inl ⟨by rfl, ?_⟩) hHeld ?_
    rotate_left
    · (intro w hSw; (try dsimp only at hSw); go_simp) <;> with_reducible rfl
    try simp only [Act.put, List.setIfInBounds_toArray, List.set_cons_zero, List.set_cons_succ]
    refine wpAnyH_take (i := 11) (oi := ({ dst := some 52, op := Op.slice 25 (Operand.tmp 50) (some (Operand.tmp 51)) none none, type := 25, pos := "law.go:64", after := #[{ on := 9, ground := Ground.data }, { on := 10, ground := Ground.data }, { on := 7, ground := Ground.guard }], guard := some (7, true) } : Oper)) (v := ?_) rfl (by kernel_rfl) (by kernel_rfl) (by kernel_rfl) (fun _ _ _ h => h) (Or.inl ⟨by rfl, ?_⟩) hHeld ?_
    rotate_left
    · (intro w hSw; (try dsimp only at hSw); go_simp) <;> with_reducible rfl
    try simp only [Act.put, List.setIfInBounds_toArray, List.set_cons_zero, List.set_cons_succ]
    refine wpAnyH_take (i := 12) (oi := ({ dst := some 53, op := Op.move (Operand.tmp 7), type := 31, pos := "law.go:64", after := #[{ on := 7, ground := Ground.guard }], guard := some (7, true) } : Oper)) (v := ?_) rfl (by kernel_rfl) (by kernel_rfl) (by kernel_rfl) (fun _ _ _ h => h) (Or.inl ⟨by rfl, ?_⟩) hHeld ?_
    rotate_left
    · (intro w hSw; (try dsimp only at hSw); go_simp) <;> with_reducible rfl
    try simp only [Act.put, List.setIfInBounds_toArray, List.set_cons_zero, List.set_cons_succ]
    refine wpAnyH_take (i := 13) (oi := ({ dst := some 54, op := Op.move (Operand.tmp 8), type := 3, pos := "law.go:64", after := #[{ on := 7, ground := Ground.guard }], guard := some (7, true) } : Oper)) (v := ?_) rfl (by kernel_rfl) (by kernel_rfl) (by kernel_rfl) (fun _ _ _ h => h) (Or.inl ⟨by rfl, ?_⟩) hHeld ?_
    rotate_left
    · (intro w hSw; (try dsimp only at hSw); go_simp) <;> with_reducible rfl
    try simp only [Act.put, List.setIfInBounds_toArray, List.set_cons_zero, List.set_cons_succ]
    refine wpAnyH_take (i := 14) (oi := ({ dst := some 55, op := Op.binOp BinOp.add 3 (Operand.tmp 54) (Operand.const (Value.int IntKind.i64 1)) 3, type := 3, pos := "law.go:64", after := #[{ on := 13, ground := Ground.data }, { on := 7, ground := Ground.guard }], guard := some (7, true) } : Oper)) (v := ?_) rfl (by kernel_rfl) (by kernel_rfl) (by kernel_rfl) (fun _ _ _ h => h) (Or.inl ⟨by rfl, ?_⟩) hHeld ?_
    rotate_left
    · (intro w hSw; (try dsimp only at hSw); go_simp) <;> with_reducible rfl
    try simp only [Act.put, List.setIfInBounds_toArray, List.set_cons_zero, List.set_cons_succ]
    refine wpAnyH_take (i := 15) (oi := ({ dst := some 56, op := Op.slice 31 (Operand.tmp 53) (some (Operand.tmp 55)) none none, type := 31, pos := "law.go:64", after := #[{ on := 12, ground := Ground.data }, { on := 14, ground := Ground.data }, { on := 7, ground := Ground.guard }], guard := some (7, true) } : Oper)) (v := ?_) rfl (by kernel_rfl) (by kernel_rfl) (by kernel_rfl) (fun _ _ _ h => h) (Or.inl ⟨by rfl, ?_⟩) hHeld ?_
    rotate_left
    · (intro w hSw; (try dsimp only at hSw); go_simp) <;> with_reducible rfl
    try simp only [Act.put, List.setIfInBounds_toArray, List.set_cons_zero, List.set_cons_succ]
    refine wpAnyH_take (i := 17) (oi := ({ dst := some 58, op := Op.move (Operand.tmp 7), type := 31, pos := "law.go:64", after := #[{ on := 7, ground := Ground.guard }], guard := some (7, true) } : Oper)) (v := ?_) rfl (by kernel_rfl) (by kernel_rfl) (by kernel_rfl) (fun _ _ _ h => h) (Or.inl ⟨by rfl, ?_⟩) hHeld ?_
    rotate_left
    · (intro w hSw; (try dsimp only at hSw); go_simp) <;> with_reducible rfl
    try simp only [Act.put, List.setIfInBounds_toArray, List.set_cons_zero, List.set_cons_succ]
    refine wpAnyH_take (i := 18) (oi := ({ dst := some 59, op := Op.move (Operand.tmp 8), type := 3, pos := "law.go:64", after := #[{ on := 7, ground := Ground.guard }], guard := some (7, true) } : Oper)) (v := ?_) rfl (by kernel_rfl) (by kernel_rfl) (by kernel_rfl) (fun _ _ _ h => h) (Or.inl ⟨by rfl, ?_⟩) hHeld ?_
    rotate_left
    · (intro w hSw; (try dsimp only at hSw); go_simp) <;> with_reducible rfl
    try simp only [Act.put, List.setIfInBounds_toArray, List.set_cons_zero, List.set_cons_succ]
    refine wpAnyH_take (i := 19) (oi := ({ dst := some 60, op := Op.indexAddr 31 (Operand.tmp 58) (Operand.tmp 59), type := 0, pos := "law.go:64", after := #[{ on := 17, ground := Ground.data }, { on := 18, ground := Ground.data }, { on := 7, ground := Ground.guard }], guard := some (7, true) } : Oper)) (v := ?_) rfl (by kernel_rfl) (by kernel_rfl) (by kernel_rfl) (fun _ _ _ h => h) (Or.inl ⟨by rfl, ?_⟩) hHeld ?_
    rotate_left
    · (intro w hSw; (try dsimp only at hSw); go_simp) <;> with_reducible rfl
    try simp only [Act.put, List.setIfInBounds_toArray, List.set_cons_zero, List.set_cons_succ]
    refine wpAnyH_take (i := 20) (oi := ({ dst := some 61, op := Op.load 37 (Operand.tmp 60), type := 37, pos := "law.go:64", after := #[{ on := 19, ground := Ground.data }, { on := 7, ground := Ground.guard }], guard := some (7, true) } : Oper)) (v := .agg (rc (fun i => allN ⟨t, n, s, ps⟩ xs (25 * k + i)))) rfl (by kernel_rfl) (by kernel_rfl) (by kernel_rfl) (fun _ _ _ h => h) (Or.inl ⟨by rfl, ?_⟩) hHeld ?_
    · intro w0 hSw
      exact exec_load_row (x := .tmp 60) (ty := 37) (b := b1) (off := k * 25) rfl rfl Try.underlying37 rfl hzi hSw.2.2.2.2.out
    try simp only [Act.put, List.setIfInBounds_toArray, List.set_cons_zero, List.set_cons_succ]
    refine wpAnyH_ready (rs := [16]) (by kernel_rfl) (by simp) ?_
    refine AllReadyH.cons (o := ({ dst := some 57, op := Op.call { callee := Callee.value (Operand.func 13), args := #[Operand.tmp 49, Operand.tmp 52, Operand.tmp 56], argTypes := #[24, 25, 31] }, type := 37, pos := "law.go:64", after := #[{ on := 8, ground := Ground.data }, { on := 11, ground := Ground.data }, { on := 15, ground := Ground.data }, { on := 7, ground := Ground.chain }, { on := 7, ground := Ground.guard }], guard := some (7, true) } : Oper)) rfl (fun K hK => ?_) (AllReadyH.nil)
    go_simp
    ((with_reducible refine (spone_any t n s A len c ps A2 (ll - k) (cl - k) (xs.drop k) A4 (ll - k) _ _ HL.out hmax (HPc.out _ (HB4.out.trans HBc.out)) HLd.out (by omega) (by omega) (HX2.out _ _ xs HLL.out.symm (HXc.out _ (HB4.out.trans HBc.out))) (Nat.le_refl _) HFd.out (HOc.out _ HBc.out)).mono ?_); rintro e vo ⟨rfl, hbo⟩)
    have HBc := Lib.hid (HBc.out.trans hbo)
    clear hbo
    go_wp2_with fail
    refine hK.out _ _ (s1_s (HK4.out.bl HBc.out) (HN14.out.bl HBc.out) hkb) (fun hHeld => ?_)
    clear hK K
    try simp only [Act.put, List.setIfInBounds_toArray, List.set_cons_zero, List.set_cons_succ]
    refine wpAnyH_take (i := 21) (oi := ({ dst := some 62, op := Op.binOp BinOp.eql 37 (Operand.tmp 57) (Operand.tmp 61) 37, type := 4, pos := "law.go:64", after := #[{ on := 16, ground := Ground.data }, { on := 20, ground := Ground.data }, { on := 7, ground := Ground.guard }], guard := some (7, true) } : Oper)) (v := .bool true) rfl (by kernel_rfl) (by kernel_rfl) (by kernel_rfl) (fun _ _ _ h => h) (Or.inl ⟨by rfl, ?_⟩) hHeld ?_
    · intro w0 _
      have h := fun (o : Oper) (a : Act) ho hx hy => exec_eql_row (P := Try.prog) (w := w0) (o := o) (a := a) (ty := 37) (ty2 := 37) (x := .tmp 57) (y := .tmp 61) (f := Sp.rowN ⟨t, n, s, ps⟩ (xs.drop k)) (h := fun i => allN ⟨t, n, s, ps⟩ xs (25 * k + i)) ho hx hy hgt (fun w => eql_row w _ _)
      rw [HSq.out] at h
      exact h _ _ rfl rfl rfl
    try simp only [Act.put, List.setIfInBounds_toArray, List.set_cons_zero, List.set_cons_succ]
    refine wpAnyH_take (i := 22) (oi := ({ dst := some 63, op := Op.pick (Operand.tmp 48) (Operand.tmp 62) (Operand.const (Value.bool false)), type := 4, pos := "law.go:64", after := #[{ on := 7, ground := Ground.data }, { on := 21, ground := Ground.data }], guard := none } : Oper)) (v := ?_) rfl (by kernel_rfl) (by kernel_rfl) (by kernel_rfl) (fun _ _ _ h => h) (Or.inl ⟨by rfl, ?_⟩) hHeld ?_
    rotate_left
    · (intro w hSw; (try dsimp only at hSw); go_simp) <;> with_reducible rfl
    try simp only [Act.put, List.setIfInBounds_toArray, List.set_cons_zero, List.set_cons_succ]
    refine wpAnyH_take (i := 23) (oi := ({ dst := some 6, op := Op.assign (Operand.tmp 63), type := 4, pos := "law.go:64", after := #[{ on := 22, ground := Ground.data }, { on := 16, ground := Ground.chain }, { on := 0, ground := Ground.phase }, { on := 1, ground := Ground.phase }, { on := 2, ground := Ground.phase }, { on := 3, ground := Ground.phase }, { on := 4, ground := Ground.phase }, { on := 5, ground := Ground.phase }, { on := 6, ground := Ground.phase }, { on := 7, ground := Ground.phase }, { on := 8, ground := Ground.phase }, { on := 9, ground := Ground.phase }, { on := 10, ground := Ground.phase }, { on := 11, ground := Ground.phase }, { on := 12, ground := Ground.phase }, { on := 13, ground := Ground.phase }, { on := 14, ground := Ground.phase }, { on := 15, ground := Ground.phase }, { on := 16, ground := Ground.phase }, { on := 17, ground := Ground.phase }, { on := 18, ground := Ground.phase }, { on := 19, ground := Ground.phase }, { on := 20, ground := Ground.phase }, { on := 21, ground := Ground.phase }, { on := 22, ground := Ground.phase }], guard := none } : Oper)) (v := ?_) rfl (by kernel_rfl) (by kernel_rfl) (by kernel_rfl) (fun _ _ _ h => h) (Or.inl ⟨by rfl, ?_⟩) hHeld ?_
    rotate_left
    · (intro w hSw; (try dsimp only at hSw); go_simp) <;> with_reducible rfl
    try simp only [Act.put, List.setIfInBounds_toArray, List.set_cons_zero, List.set_cons_succ]
    refine wpAnyH_done (by kernel_rfl) ?_ _
    go_wp2_with fail
    go_ret
    exact ⟨rfl, HB4.out.trans HBc.out⟩
end Go.Proofs.Ythfhnjoeippenaa
