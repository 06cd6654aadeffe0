/- The span laws' awake and large. -/
import Derived.Test.YthfhnjoeippenaaSpOwn
import Derived.BigFrame
namespace Go.Proofs.Ythfhnjoeippenaa
open Go.RowKit
open Cf (Cm)

/-- What comes of the grammar that awake asks about: a's alone. -/
def G16 : Gr.Gm := ⟨2, 1, 0, ps14b⟩
theorem ps14b_mem {p : Gr.Pr} (h : p ∈ ps14b) : p = ⟨0, [⟨false, 0⟩, ⟨true, 0⟩]⟩ ∨ p = ⟨0, []⟩ := by
  unfold ps14b at h
  rcases List.mem_cons.mp h with h | h
  · exact .inl h
  · rw [List.mem_singleton] at h; exact .inr h
theorem g16_only {l : List Gr.Sy} {u : List Int} (h : Cm G16 l u) : (∀ s ∈ l, s.non = false → s.n = 0) → ∀ x ∈ u, x = 0 := by
  induction h with
  | nil => intro _ x hx; exact absurd hx (by simp)
  | tok hs _ ih =>
    intro hl x hx
    rcases List.mem_cons.mp hx with e | hx
    · rw [e]; exact hl _ (List.mem_cons_self ..) hs
    · exact ih (fun s hs => hl s (List.mem_cons_of_mem _ hs)) x hx
  | non _ hp _ _ _ ih1 ih2 =>
    intro hl x hx
    rcases List.mem_append.mp hx with hx | hx
    · refine ih1 (fun s hs hn => ?_) x hx
      rcases ps14b_mem hp with e | e
      · subst e
        rcases List.mem_cons.mp hs with e | hs
        · rw [e]
        · rw [List.mem_singleton] at hs; rw [hs]
      · subst e; exact absurd hs (by simp)
    · exact ih2 (fun s hs => hl s (List.mem_cons_of_mem _ hs)) x hx
theorem g16_all : ∀ {u : List Int}, (∀ x ∈ u, x = 0) → Cm G16 [⟨true, 0⟩] u
  | [], _ => Cf.Cm.one.mpr ⟨⟨0, []⟩, by unfold G16 ps14b; simp, rfl, .nil⟩
  | x :: u, h => by
    have hx := h x (List.mem_cons_self ..)
    subst hx
    have h2 := g16_all (u := u) (fun y hy => h y (List.mem_cons_of_mem _ hy))
    exact Cf.Cm.one.mpr ⟨⟨0, [⟨false, 0⟩, ⟨true, 0⟩]⟩, by unfold G16 ps14b; simp, rfl, .tok (s := ⟨false, 0⟩) rfl h2⟩
def zs (u : List Int) : Bool := u.all fun x => decide (x = 0)
theorem zs_iff {u : List Int} : zs u = true ↔ ∀ x ∈ u, x = 0 := by
  unfold zs
  rw [List.all_eq_true]
  constructor
  · intro h x hx; exact of_decide_eq_true (h x hx)
  · intro h x hx; exact decide_eq_true (h x hx)
theorem g16_com (u : List Int) : Sp.comB G16 0 u = zs u := by
  rw [Bool.eq_iff_iff, Sp.comB_iff, zs_iff]
  exact ⟨fun h => g16_only h (fun s hs hn => by rw [List.mem_singleton] at hs; rw [hs] at hn; cases hn), fun h => g16_all h⟩
theorem ok16 : Gr.Ok G16 := (okB_iff _).1 (by kernel_rfl)
theorem g16_on (n : Nat) (u : List Int) : Sp.onB G16 n u = (decide (n = 0) && zs u) := by
  rw [Bool.eq_iff_iff, Sp.onB_iff, Bool.and_eq_true, decide_eq_true_eq, zs_iff]
  constructor
  · rintro ⟨v, h⟩
    have h1 := (Sp.no_non ok16 h).2
    have h2 : (n : Int) < 1 := h1
    have hn : n = 0 := by omega
    subst hn
    have h3 := g16_only h (fun s hs hn => by rw [List.mem_singleton] at hs; rw [hs] at hn; cases hn)
    exact ⟨rfl, fun x hx => h3 x (List.mem_append.mpr (.inl hx))⟩
  · rintro ⟨rfl, h⟩
    exact ⟨[], by rw [List.append_nil]; exact g16_all h⟩
def rowE (u : List Int) : Nat := Sp.bitsN 32 fun k => decide (k ≤ u.length) && zs (u.take k)
def rowO (u : List Int) : Nat := Sp.bitsN 32 fun n => decide (n = 0) && zs u
theorem row16_end (u : List Int) : Sp.rowN G16 u 0 = rowE u := by
  unfold Sp.rowN rowE
  rw [if_pos (by decide)]
  exact Sp.bitsN_congr fun k _ => by rw [g16_com]
theorem row16_over (u : List Int) : Sp.rowN G16 u 24 = rowO u := by
  unfold Sp.rowN rowO
  rw [if_neg (by decide)]
  exact Sp.bitsN_congr fun n _ => g16_on n u
theorem all16 (u : List Int) (a : Nat) : allN G16 u (25 * a) = rowE (u.drop a) ∧ allN G16 u (25 * a + 24) = rowO (u.drop a) :=
  ⟨(allN_at G16 u (a := a) (i := 0) (by decide)).trans (row16_end _), (allN_at G16 u (a := a) (i := 24) (by decide)).trans (row16_over _)⟩
theorem fit16a : fitB G16 [0, 0] = true := by kernel_rfl
theorem fit16b : fitB G16 [0, 1] = true := by kernel_rfl
theorem fit16c : fitB G16 [2] = false := by kernel_rfl

/- Operations of whole rows behind a guard. -/
section
variable {P : Program} {ops : Array Oper} {rest : List Oper} {o : Oper} {a : Act} {w : World} {Q : Exit → Act → World → Prop}
theorem wpList_load_rowG (hw : Region.wanted o (yielded ops a.tmps) = true) (ty : TypeId) (x : Operand) (ho : o.op = .load ty x) (b off : Nat) (f : Nat → Nat) (d : TypeDesc) (hx : a.eval x = .pointer (some ⟨b, off, none⟩)) (hu : P.underlying ty = some d)
    (hd : (match d with | .struct _ | .array _ _ => true | _ => false) = true) (hi : (P.info? ty).map (·.size) = some 25) (hc : ∀ i, i < 25 → w.cell? ⟨b, off + i, none⟩ = some (.int .u32 (f i : Int)))
    (h : wpList P ops Q rest (a.put o.dst (.agg (rc f))) w) : wpList P ops Q (o :: rest) a w :=
  BigFrame.wpList_want hw fun K hK => by
    have hrun := run_load_row (P := P) w ty b off f d hu hd hi hc
    unfold Oper.wp execOp
    simp only [ho, hx, Instr.loadAt, Instr.sureAddr, Sem.run_bind, Sem.run_pure, Result.andThen_ok, hrun]
    exact hK _ _ h
theorem wpList_eql_rowG (hw : Region.wanted o (yielded ops a.tmps) = true) (ty ty2 ty3 : TypeId) (x y : Operand) (ho : o.op = .binOp .eql ty x y ty2) (f h : Nat → Nat) (hx : a.eval x = .agg (rc f)) (hy : a.eval y = .agg (rc h)) (hm : P.eqGuardType P.depth ty3 = false)
    (he : ∀ w, (Op.equalIn 10000 ty3 (.agg (rc f)) (.agg (rc h))).run P w = .ok (sameN 25 f h) w) (ht : ty3 = ty) (hk : wpList P ops Q rest (a.put o.dst (.bool (sameN 25 f h))) w) : wpList P ops Q (o :: rest) a w := by
  subst ht
  exact BigFrame.wpList_want hw fun K hK => by
    have hrun := run_eql_any (P := P) ty3 x y f h hm he w
    unfold Oper.wp execOp
    simp only [ho, hx, hy, hrun, Sem.run_bind, Sem.run_pure, Result.andThen_ok]
    exact hK _ _ hk
end

theorem exec_load_row {P : Program} {w : World} {o : Oper} {a : Act} {ty : TypeId} {x : Operand} {b off : Nat} {f : Nat → Nat} {d : TypeDesc} (ho : o.op = .load ty x) (hx : a.eval x = .pointer (some ⟨b, off, none⟩)) (hu : P.underlying ty = some d)
    (hd : (match d with | .struct _ | .array _ _ => true | _ => false) = true) (hi : (P.info? ty).map (·.size) = some 25) (hc : ∀ i, i < 25 → w.cell? ⟨b, off + i, none⟩ = some (.int .u32 (f i : Int))) : (execOp a.eval o).run P w = .ok (.value (.agg (rc f))) w := by
  have hrun := run_load_row (P := P) w ty b off f d hu hd hi hc
  unfold execOp
  simp only [ho, hx, Instr.loadAt, Instr.sureAddr, Sem.run_bind, Sem.run_pure, Result.andThen_ok, hrun]
theorem exec_eql_row {P : Program} {w : World} {o : Oper} {a : Act} {ty ty2 : TypeId} {x y : Operand} {f h : Nat → Nat} (ho : o.op = .binOp .eql ty x y ty2) (hx : a.eval x = .agg (rc f)) (hy : a.eval y = .agg (rc h)) (hm : P.eqGuardType P.depth ty = false)
    (he : ∀ w, (Op.equalIn 10000 ty (.agg (rc f)) (.agg (rc h))).run P w = .ok (sameN 25 f h) w) : (execOp a.eval o).run P w = .ok (.value (.bool (sameN 25 f h))) w := by
  have hrun := run_eql_any (P := P) ty x y f h hm he w
  unfold execOp
  simp only [ho, hx, hy, hrun, Sem.run_bind, Sem.run_pure, Result.andThen_ok]
theorem fit16z : fitB ⟨2, 1, 0, ps14b⟩ [0, 0] = true := fit16a
theorem same16 : sameN 25 (Sp.rowN ⟨2, 1, 0, ps14b⟩ [0, 0]) (allN G16 [0, 0]) = true := sameN_iff.2 fun i hi => ((allN_at G16 [0, 0] (a := 0) hi).symm.trans (by rw [Nat.mul_zero, Nat.zero_add]))
theorem drew_size (W : World) : W.heap.size ≤ W.drew.heap.size := Nat.le_refl _

/-- Is it more than is looked at? -/
def lg16 (ps : List Gr.Pr) (lw : Nat) : Bool := lgB ps || decide (30 < ps.length) || (decide (8 < lw) && decide (lw ≤ 24)) || decide (40 < lw)

set_option maxRecDepth 100000 in
set_option maxHeartbeats 3200000 in
theorem large16_any (t n s : Int) (A : Option Addr) (len c : Nat) (ps : List Gr.Pr) (Aw : Option Addr) (lw cw : Nat) (w : World) (B : Nat) (hlen : len = ps.length) (hmax : len ≤ 9223372036854775807) (hmw : lw ≤ 9223372036854775807) (hr : Prs w B A ps) (hB : B ≤ w.heap.size) :
    Calls Try.prog 7 #[.agg #[.int .i64 t, .int .i64 n, .int .i64 s, .slice A len c], .slice Aw lw cw] w fun e w' => e = .returned (.bool (lg16 ps lw)) ∧ Bl w w' := by
  have HB0 : Hid (Bl w (w.alloc (.cells #[.int .i64 t, .int .i64 n, .int .i64 s, .slice A len c] 24))) := (Bl.refl w).alloc _
  have HK0 := Lib.hid (Bk.new w 24 #[.int .i64 t, .int .i64 n, .int .i64 s, .slice A len c])
  have HLa := Lib.hid (large9_any t n s A len c ps (w.alloc (.cells #[.int .i64 t, .int .i64 n, .int .i64 s, .slice A len c] 24)) B hlen hmax (hr.bl hB HB0.out) (Nat.le_trans hB HB0.out.size))
  have HG : Hid (lg16 ps lw = (lgB ps || decide (30 < len) || (decide (8 < lw) && decide (lw ≤ 24)) || decide (40 < lw))) := by rw [hlen]; rfl
  clear hr hlen
  cases hl : lgB ps with
  | true =>
    rw [hl] at HLa HG
    clear hl
    have HGt : Hid (lg16 ps lw = true) := by unfold Hid; rw [HG.out]; simp
    go_enter Try.func7, Try.ntmps7
    go_wp2_with fail
    refine HLa.out.mono ?_
    rintro e w1 ⟨rfl, hb1⟩
    have HB1 := Lib.hid (HB0.out.trans hb1)
    clear hb1
    go_wp2_with fail
    go_ret
    exact ⟨by rw [HGt.out]; rfl, HB1.out⟩
  | false =>
    rw [hl] at HLa HG
    clear hl
    have key : (30 < len) ∨ (¬ 30 < len ∧ 8 < lw ∧ lw ≤ 24) ∨ (¬ 30 < len ∧ 8 < lw ∧ ¬ lw ≤ 24 ∧ 40 < lw) ∨ (¬ 30 < len ∧ 8 < lw ∧ ¬ lw ≤ 24 ∧ ¬ 40 < lw) ∨ (¬ 30 < len ∧ ¬ 8 < lw ∧ ¬ 40 < lw) := by omega
    go_enter Try.func7, Try.ntmps7
    go_wp2_with fail
    refine HLa.out.mono ?_
    rintro e w1 ⟨rfl, hb1⟩
    have HB1 := Lib.hid (HB0.out.trans hb1)
    have HK1 := Lib.hid (HK0.out.bl hb1)
    have k3 : w1.cell? ⟨w.heap.size, 3, none⟩ = some (.slice A len c) := HK1.out.cell 3
    have kl := HK1.out.lt
    clear hb1
    rcases key with k1 | ⟨k1, k2, k3'⟩ | ⟨k1, k2, k3', k4⟩ | ⟨k1, k2, k3', k4⟩ | ⟨k1, k2, k4⟩
    · have HGt : Hid (lg16 ps lw = true) := by unfold Hid; rw [HG.out, decide_eq_true k1]; simp
      have d1 : decide ((30 : Int) < (len : Int)) = true := decide_eq_true (by omega)
      clear k1
      go_wp2_with fail
      go_ret
      exact ⟨by rw [HGt.out]; rfl, HB1.out⟩
    · have HGt : Hid (lg16 ps lw = true) := by unfold Hid; rw [HG.out, decide_eq_true k2, decide_eq_true k3']; simp
      have d1 : decide ((30 : Int) < (len : Int)) = false := decide_eq_false (by omega)
      have d2 : decide ((8 : Int) < (lw : Int)) = true := decide_eq_true (by omega)
      have d3 : decide ((lw : Int) ≤ (24 : Int)) = true := decide_eq_true (by omega)
      clear k1 k2 k3'
      go_wp2_with fail
      go_ret
      exact ⟨by rw [HGt.out]; rfl, HB1.out⟩
    · have HGt : Hid (lg16 ps lw = true) := by unfold Hid; rw [HG.out, decide_eq_true k4]; simp
      have d1 : decide ((30 : Int) < (len : Int)) = false := decide_eq_false (by omega)
      have d2 : decide ((8 : Int) < (lw : Int)) = true := decide_eq_true (by omega)
      have d3 : decide ((lw : Int) ≤ (24 : Int)) = false := decide_eq_false (by omega)
      have d4 : decide ((40 : Int) < (lw : Int)) = true := decide_eq_true (by omega)
      clear k1 k2 k3' k4
      go_wp2_with fail
      go_ret
      exact ⟨by rw [HGt.out]; rfl, HB1.out⟩
    · have HGt : Hid (lg16 ps lw = false) := by unfold Hid; rw [HG.out, decide_eq_false k1, decide_eq_false k3', decide_eq_false k4]; simp
      have d1 : decide ((30 : Int) < (len : Int)) = false := decide_eq_false (by omega)
      have d2 : decide ((8 : Int) < (lw : Int)) = true := decide_eq_true (by omega)
      have d3 : decide ((lw : Int) ≤ (24 : Int)) = false := decide_eq_false (by omega)
      have d4 : decide ((40 : Int) < (lw : Int)) = false := decide_eq_false (by omega)
      clear k1 k2 k3' k4
      go_wp2_with fail
      go_ret
      exact ⟨by rw [HGt.out]; rfl, HB1.out⟩
    · have HGt : Hid (lg16 ps lw = false) := by unfold Hid; rw [HG.out, decide_eq_false k1, decide_eq_false k2, decide_eq_false k4]; simp
      have d1 : decide ((30 : Int) < (len : Int)) = false := decide_eq_false (by omega)
      have d2 : decide ((8 : Int) < (lw : Int)) = false := decide_eq_false (by omega)
      have d4 : decide ((40 : Int) < (lw : Int)) = false := decide_eq_false (by omega)
      clear k1 k2 k4
      go_wp2_with fail
      go_ret
      exact ⟨by rw [HGt.out]; rfl, HB1.out⟩

theorem RowsPost.lit {g : Gr.Gm} {xs : List Int} {m : Nat} {w w' : World} {e : Ending} (h : RowsPost g xs w e w') (hf : fitB g xs = true) (hm : xs.length + 1 = m) :
    ∃ b, e = .returned (.slice (some ⟨b, 0, none⟩) m m) ∧ w.heap.size ≤ b ∧ Wn 37 w' b (25 * m) (allN g xs) ∧ Bl w w' := by
  subst hm
  obtain ⟨h1, _, h3⟩ := h
  obtain ⟨b, h4, h5, h6⟩ := h1 hf
  exact ⟨b, h4, h5, h6, h3⟩
theorem RowsPost.no {g : Gr.Gm} {xs : List Int} {w w' : World} {e : Ending} (h : RowsPost g xs w e w') (hf : fitB g xs = false) : e = .returned (.slice none 0 0) ∧ Bl w w' := ⟨h.2.1 hf, h.2.2⟩
theorem rdw_lit (w : World) (x y : Int) {g : Nat} (hg : g = w.heap.size) : Rd (w.alloc (.cells #[.int .i64 x, .int .i64 y] 3)) (w.alloc (.cells #[.int .i64 x, .int .i64 y] 3)).heap.size (some ⟨g, 0, none⟩) (ins [x, y]) :=
  rd_bl_lit w _ _ _ (Bl.refl _) rfl hg
theorem rdw_lit1 (w : World) (x : Int) {g : Nat} (hg : g = w.heap.size) : Rd (w.alloc (.cells #[.int .i64 x] 3)) (w.alloc (.cells #[.int .i64 x] 3)).heap.size (some ⟨g, 0, none⟩) (ins [x]) :=
  rd_bl_lit w _ _ _ (Bl.refl _) rfl hg

theorem aw16_s {w w' : World} {b1 b2 : Nat} (hk : Bk w' (w.heap.size + 1 + 1) 24 #[.int .i64 2, .int .i64 1, .int .i64 0, .slice (some ⟨w.heap.size + 1, 0, none⟩) 2 2]) (h1 : Wn 37 w' b1 (25 * 3) (allN G16 [0, 0])) (h2 : Wn 37 w' b2 (25 * 3) (allN G16 [0, 1])) :
    w'.cell? ⟨w.heap.size + 1 + 1, 0, none⟩ = some (.int .i64 2) ∧ w'.cell? ⟨w.heap.size + 1 + 1, 1, none⟩ = some (.int .i64 1) ∧ w'.cell? ⟨w.heap.size + 1 + 1, 2, none⟩ = some (.int .i64 0) ∧ w'.cell? ⟨w.heap.size + 1 + 1, 3, none⟩ = some (.slice (some ⟨w.heap.size + 1, 0, none⟩) 2 2) ∧ w'.cell? ⟨b1, 0, none⟩ = some (.int .u32 7) ∧ w'.cell? ⟨b1, 24, none⟩ = some (.int .u32 1) ∧ w'.cell? ⟨b1, 50, none⟩ = some (.int .u32 1) ∧ w'.cell? ⟨b2, 0, none⟩ = some (.int .u32 3) ∧ w'.cell? ⟨b2, 24, none⟩ = some (.int .u32 0) ∧ w'.cell? ⟨b2, 25, none⟩ = some (.int .u32 1) ∧ w'.cell? ⟨b2, 49, none⟩ = some (.int .u32 0) ∧ w'.cell? ⟨b2, 74, none⟩ = some (.int .u32 1) ∧ Hid (∀ i, i < 25 → w'.cell? ⟨b1, 0 + i, none⟩ = some (.int .u32 (allN G16 [0, 0] i : Int))) :=
  ⟨hk.cell 0, hk.cell 1, hk.cell 2, hk.cell 3, (by rw [h1.cell (i := 0) (by decide)]; exact congrArg (fun n : Nat => some (Value.int .u32 (n : Int))) ((all16 [0, 0] 0).1.trans (show rowE (List.drop 0 [0, 0]) = 7 by kernel_rfl))), (by rw [h1.cell (i := 24) (by decide)]; exact congrArg (fun n : Nat => some (Value.int .u32 (n : Int))) ((all16 [0, 0] 0).2.trans (show rowO (List.drop 0 [0, 0]) = 1 by kernel_rfl))), (by rw [h1.cell (i := 50) (by decide)]; exact congrArg (fun n : Nat => some (Value.int .u32 (n : Int))) ((all16 [0, 0] 2).1.trans (show rowE (List.drop 2 [0, 0]) = 1 by kernel_rfl))), (by rw [h2.cell (i := 0) (by decide)]; exact congrArg (fun n : Nat => some (Value.int .u32 (n : Int))) ((all16 [0, 1] 0).1.trans (show rowE (List.drop 0 [0, 1]) = 3 by kernel_rfl))), (by rw [h2.cell (i := 24) (by decide)]; exact congrArg (fun n : Nat => some (Value.int .u32 (n : Int))) ((all16 [0, 1] 0).2.trans (show rowO (List.drop 0 [0, 1]) = 0 by kernel_rfl))), (by rw [h2.cell (i := 25) (by decide)]; exact congrArg (fun n : Nat => some (Value.int .u32 (n : Int))) ((all16 [0, 1] 1).1.trans (show rowE (List.drop 1 [0, 1]) = 1 by kernel_rfl))), (by rw [h2.cell (i := 49) (by decide)]; exact congrArg (fun n : Nat => some (Value.int .u32 (n : Int))) ((all16 [0, 1] 1).2.trans (show rowO (List.drop 1 [0, 1]) = 0 by kernel_rfl))), (by rw [h2.cell (i := 74) (by decide)]; exact congrArg (fun n : Nat => some (Value.int .u32 (n : Int))) ((all16 [0, 1] 2).2.trans (show rowO (List.drop 2 [0, 1]) = 1 by kernel_rfl))), fun i hi => by rw [Nat.zero_add]; exact h1.cell (by omega)⟩

set_option maxRecDepth 100000 in
set_option maxHeartbeats 8000000 in
theorem awake16_any (w : World) : Calls Try.prog 6 #[] w fun e w' => e = .returned (.bool true) ∧ Bl w w' := by
  have HSame := Lib.hid same16
  have HDz := Lib.hid drew_size
  have hzi : (Try.prog.info? 37).map (·.size) = some 25 := row_size
  have hgt : Try.prog.eqGuardType Try.prog.depth 37 = false := by kernel_rfl
  have HPw : Hid (∀ W, Bl ((w.alloc (.cells #[.bool false, .int .i64 0, .bool true, .int .i64 0] 45)).alloc (.cells #[.int .i64 0, .slice (some ⟨w.heap.size, 0, none⟩) 2 2, .int .i64 0, .slice none 0 0] 48)) W → PrsC W W.heap.size (some ⟨w.heap.size + 1, 0, none⟩) ps14b) := fun W hb => ((prs14b w).bl (Nat.le_refl _) hb).more hb.size
  have HBa : Hid (Bl w ((w.alloc (.cells #[.bool false, .int .i64 0, .bool true, .int .i64 0] 45)).alloc (.cells #[.int .i64 0, .slice (some ⟨w.heap.size, 0, none⟩) 2 2, .int .i64 0, .slice none 0 0] 48))) := ((Bl.refl w).alloc _).alloc _
  have hsz : ((w.alloc (.cells #[.bool false, .int .i64 0, .bool true, .int .i64 0] 45)).alloc (.cells #[.int .i64 0, .slice (some ⟨w.heap.size, 0, none⟩) 2 2, .int .i64 0, .slice none 0 0] 48)).heap.size = w.heap.size + 1 + 1 := by rw [World.size_alloc, World.size_alloc]
  go_enter Try.func6, Try.ntmps6
  go_wp2_with fail
  generalize (w.alloc (.cells #[.bool false, .int .i64 0, .bool true, .int .i64 0] 45)).alloc (.cells #[.int .i64 0, .slice (some ⟨w.heap.size, 0, none⟩) 2 2, .int .i64 0, .slice none 0 0] 48) = wp at *
  have HSz := Lib.hid hsz
  have HKg : Hid (Bk (wp.alloc (.cells #[.int .i64 2, .int .i64 1, .int .i64 0, .slice (some ⟨w.heap.size + 1, 0, none⟩) 2 2] 24)) (w.heap.size + 1 + 1) 24 #[.int .i64 2, .int .i64 1, .int .i64 0, .slice (some ⟨w.heap.size + 1, 0, none⟩) 2 2]) := by have h := Bk.new wp 24 #[.int .i64 2, .int .i64 1, .int .i64 0, .slice (some ⟨w.heap.size + 1, 0, none⟩) 2 2]; rw [hsz] at h; exact h
  clear hsz
  have hsg : (wp.alloc (.cells #[.int .i64 2, .int .i64 1, .int .i64 0, .slice (some ⟨w.heap.size + 1, 0, none⟩) 2 2] 24)).heap.size = w.heap.size + 1 + 1 + 1 := by rw [World.size_alloc, HSz.out]
  have HBg : Hid (Bl wp (wp.alloc (.cells #[.int .i64 2, .int .i64 1, .int .i64 0, .slice (some ⟨w.heap.size + 1, 0, none⟩) 2 2] 24))) := (Bl.refl wp).alloc _
  generalize wp.alloc (.cells #[.int .i64 2, .int .i64 1, .int .i64 0, .slice (some ⟨w.heap.size + 1, 0, none⟩) 2 2] 24) = wg at *
  have HRw : Hid (Rd (wg.alloc (.cells #[.int .i64 0, .int .i64 0] 3)) (wg.alloc (.cells #[.int .i64 0, .int .i64 0] 3)).heap.size (some ⟨w.heap.size + 1 + 1 + 1, 0, none⟩) (ins [0, 0])) := rdw_lit wg 0 0 hsg.symm
  clear hsg
  refine (sprows_any 2 1 0 (some ⟨w.heap.size + 1, 0, none⟩) 2 2 ps14b (some ⟨w.heap.size + 1 + 1 + 1, 0, none⟩) 2 2 [0, 0] _ _ rfl (by decide) (HPw.out _ (HBg.out.alloc _)) rfl (by decide) (Nat.le_refl _) HRw.out (Nat.le_refl _)).mono ?_
  intro e w1 hp1
  obtain ⟨b1, he, hlo1, hn1, hb1⟩ := hp1.lit (m := 3) fit16a rfl
  subst he
  have HN1 := Lib.hid hn1
  have HB1 := Lib.hid ((HBg.out.alloc _).trans hb1)
  have HK1 := Lib.hid ((HKg.out.alloc (.cells #[.int .i64 0, .int .i64 0] 3)).bl hb1)
  clear hp1 hn1 hb1 hlo1 HRw HKg HBg
  have k0 : w1.cell? ⟨w.heap.size + 1 + 1, 0, none⟩ = some (.int .i64 2) := HK1.out.cell 0
  have k1 : w1.cell? ⟨w.heap.size + 1 + 1, 1, none⟩ = some (.int .i64 1) := HK1.out.cell 1
  have k2 : w1.cell? ⟨w.heap.size + 1 + 1, 2, none⟩ = some (.int .i64 0) := HK1.out.cell 2
  have k3 : w1.cell? ⟨w.heap.size + 1 + 1, 3, none⟩ = some (.slice (some ⟨w.heap.size + 1, 0, none⟩) 2 2) := HK1.out.cell 3
  have kl := HK1.out.lt
  go_wp2_with fail
  refine (sprows_any 2 1 0 (some ⟨w.heap.size + 1, 0, none⟩) 2 2 ps14b (some ⟨w1.heap.size, 0, none⟩) 2 2 [0, 1] _ _ rfl (by decide) (HPw.out _ (HB1.out.alloc _)) rfl (by decide) (Nat.le_refl _) (rdw_lit w1 0 1 rfl) (Nat.le_refl _)).mono ?_
  intro e w2 hp2
  obtain ⟨b2, he, hlo2, hn2, hb2⟩ := hp2.lit (m := 3) fit16b rfl
  subst he
  have HN2 := Lib.hid hn2
  have HB2 := Lib.hid ((HB1.out.alloc _).trans hb2)
  have HK2 := Lib.hid ((HK1.out.alloc (.cells #[.int .i64 0, .int .i64 1] 3)).bl hb2)
  have HN12 := Lib.hid ((HN1.out.bl ((Bl.refl w1).alloc (.cells #[.int .i64 0, .int .i64 1] 3))).bl hb2)
  clear hp2 hn2 hb2 hlo2 k0 k1 k2 k3 kl HN1 HK1 HB1
  have k0 : w2.cell? ⟨w.heap.size + 1 + 1, 0, none⟩ = some (.int .i64 2) := HK2.out.cell 0
  have k1 : w2.cell? ⟨w.heap.size + 1 + 1, 1, none⟩ = some (.int .i64 1) := HK2.out.cell 1
  have k2 : w2.cell? ⟨w.heap.size + 1 + 1, 2, none⟩ = some (.int .i64 0) := HK2.out.cell 2
  have k3 : w2.cell? ⟨w.heap.size + 1 + 1, 3, none⟩ = some (.slice (some ⟨w.heap.size + 1, 0, none⟩) 2 2) := HK2.out.cell 3
  have kl := HK2.out.lt
  go_wp2_with fail
  refine wp_region_held_drew (S := (fun w' => w'.cell? ⟨w.heap.size + 1 + 1, 0, none⟩ = some (.int .i64 2) ∧ w'.cell? ⟨w.heap.size + 1 + 1, 1, none⟩ = some (.int .i64 1) ∧ w'.cell? ⟨w.heap.size + 1 + 1, 2, none⟩ = some (.int .i64 0) ∧ w'.cell? ⟨w.heap.size + 1 + 1, 3, none⟩ = some (.slice (some ⟨w.heap.size + 1, 0, none⟩) 2 2) ∧ w'.cell? ⟨b1, 0, none⟩ = some (.int .u32 7) ∧ w'.cell? ⟨b1, 24, none⟩ = some (.int .u32 1) ∧ w'.cell? ⟨b1, 50, none⟩ = some (.int .u32 1) ∧ w'.cell? ⟨b2, 0, none⟩ = some (.int .u32 3) ∧ w'.cell? ⟨b2, 24, none⟩ = some (.int .u32 0) ∧ w'.cell? ⟨b2, 25, none⟩ = some (.int .u32 1) ∧ w'.cell? ⟨b2, 49, none⟩ = some (.int .u32 0) ∧ w'.cell? ⟨b2, 74, none⟩ = some (.int .u32 1) ∧ Hid (∀ i, i < 25 → w'.cell? ⟨b1, 0 + i, none⟩ = some (.int .u32 (allN G16 [0, 0] i : Int))))) (by kernel_rfl) (aw16_s HK2.out HN12.out HN2.out) (fun hHeld => ?_)
  refine wpAnyH_take (i := 0) (oi := ({ dst := some 17, op := Op.move (Operand.tmp 2), type := 31, pos := "law.go:31", after := #[], guard := none } : Oper)) (v := ?_) rfl (by kernel_rfl) (by kernel_rfl) (by kernel_rfl) (fun _ _ _ h => h) (Or.inl ⟨by rfl, ?_⟩) hHeld ?_
  rotate_left
  · (intro w hSw; (try dsimp only at hSw); go_simp) <;> with_reducible rfl
  try simp only [Act.put, List.setIfInBounds_toArray, List.set_cons_zero, List.set_cons_succ]
  refine wpAnyH_take (i := 1) (oi := ({ dst := some 18, op := Op.call { callee := Callee.builtin Builtin.len, args := #[Operand.tmp 17], argTypes := #[31] }, type := 3, pos := "law.go:31", after := #[{ on := 0, ground := Ground.data }], guard := none } : Oper)) (v := ?_) rfl (by kernel_rfl) (by kernel_rfl) (by kernel_rfl) (fun _ _ _ h => h) (Or.inl ⟨by rfl, ?_⟩) hHeld ?_
  rotate_left
  · (intro w hSw; (try dsimp only at hSw); go_simp) <;> with_reducible rfl
  try simp only [Act.put, List.setIfInBounds_toArray, List.set_cons_zero, List.set_cons_succ]
  refine wpAnyH_take (i := 2) (oi := ({ dst := some 19, op := Op.binOp BinOp.eql 3 (Operand.tmp 18) (Operand.const (Value.int IntKind.i64 3)) 3, type := 4, pos := "law.go:31", after := #[{ on := 1, ground := Ground.data }], guard := none } : Oper)) (v := ?_) rfl (by kernel_rfl) (by kernel_rfl) (by kernel_rfl) (fun _ _ _ h => h) (Or.inl ⟨by rfl, ?_⟩) hHeld ?_
  rotate_left
  · (intro w hSw; (try dsimp only at hSw); go_simp) <;> with_reducible rfl
  try simp only [Act.put, List.setIfInBounds_toArray, List.set_cons_zero, List.set_cons_succ]
  refine wpAnyH_take (i := 3) (oi := ({ dst := some 20, op := Op.move (Operand.tmp 19), type := 4, pos := "law.go:31", after := #[{ on := 2, ground := Ground.data }], guard := none } : Oper)) (v := ?_) rfl (by kernel_rfl) (by kernel_rfl) (by kernel_rfl) (fun _ _ _ h => h) (Or.inl ⟨by rfl, ?_⟩) hHeld ?_
  rotate_left
  · (intro w hSw; (try dsimp only at hSw); go_simp) <;> with_reducible rfl
  try simp only [Act.put, List.setIfInBounds_toArray, List.set_cons_zero, List.set_cons_succ]
  refine wpAnyH_take (i := 4) (oi := ({ dst := some 21, op := Op.move (Operand.tmp 2), type := 31, pos := "law.go:31", after := #[{ on := 3, ground := Ground.guard }], guard := some (3, true) } : Oper)) (v := ?_) rfl (by kernel_rfl) (by kernel_rfl) (by kernel_rfl) (fun _ _ _ h => h) (Or.inl ⟨by rfl, ?_⟩) hHeld ?_
  rotate_left
  · (intro w hSw; (try dsimp only at hSw); go_simp) <;> with_reducible rfl
  try simp only [Act.put, List.setIfInBounds_toArray, List.set_cons_zero, List.set_cons_succ]
  refine wpAnyH_take (i := 5) (oi := ({ dst := some 22, op := Op.indexAddr 31 (Operand.tmp 21) (Operand.const (Value.int IntKind.i64 0)), type := 0, pos := "law.go:31", after := #[{ on := 4, ground := Ground.data }, { on := 3, ground := Ground.guard }], guard := some (3, true) } : Oper)) (v := ?_) rfl (by kernel_rfl) (by kernel_rfl) (by kernel_rfl) (fun _ _ _ h => h) (Or.inl ⟨by rfl, ?_⟩) hHeld ?_
  rotate_left
  · (intro w hSw; (try dsimp only at hSw); go_simp) <;> with_reducible rfl
  try simp only [Act.put, List.setIfInBounds_toArray, List.set_cons_zero, List.set_cons_succ]
  refine wpAnyH_take (i := 6) (oi := ({ dst := some 23, op := Op.fieldAddr 37 (Operand.tmp 22) 0, type := 0, pos := "law.go:31", after := #[{ on := 5, ground := Ground.data }, { on := 3, ground := Ground.guard }], guard := some (3, true) } : Oper)) (v := ?_) rfl (by kernel_rfl) (by kernel_rfl) (by kernel_rfl) (fun _ _ _ h => h) (Or.inl ⟨by rfl, ?_⟩) hHeld ?_
  rotate_left
  · (intro w hSw; (try dsimp only at hSw); go_simp) <;> with_reducible rfl
  try simp only [Act.put, List.setIfInBounds_toArray, List.set_cons_zero, List.set_cons_succ]
  refine wpAnyH_take (i := 7) (oi := ({ dst := some 24, op := Op.indexAddr 35 (Operand.tmp 23) (Operand.const (Value.int IntKind.i64 0)), type := 0, pos := "law.go:31", after := #[{ on := 6, ground := Ground.data }, { on := 3, ground := Ground.guard }], guard := some (3, true) } : Oper)) (v := ?_) rfl (by kernel_rfl) (by kernel_rfl) (by kernel_rfl) (fun _ _ _ h => h) (Or.inl ⟨by rfl, ?_⟩) hHeld ?_
  rotate_left
  · (intro w hSw; (try dsimp only at hSw); go_simp) <;> with_reducible rfl
  try simp only [Act.put, List.setIfInBounds_toArray, List.set_cons_zero, List.set_cons_succ]
  refine wpAnyH_take (i := 8) (oi := ({ dst := some 25, op := Op.load 34 (Operand.tmp 24), type := 34, pos := "law.go:31", after := #[{ on := 7, ground := Ground.data }, { on := 3, ground := Ground.guard }], guard := some (3, true) } : Oper)) (v := ?_) rfl (by kernel_rfl) (by kernel_rfl) (by kernel_rfl) (fun _ _ _ h => h) (Or.inl ⟨by rfl, ?_⟩) hHeld ?_
  rotate_left
  · (intro w hSw; (try dsimp only at hSw); go_simp) <;> with_reducible rfl
  try simp only [Act.put, List.setIfInBounds_toArray, List.set_cons_zero, List.set_cons_succ]
  refine wpAnyH_take (i := 9) (oi := ({ dst := some 26, op := Op.binOp BinOp.eql 34 (Operand.tmp 25) (Operand.const (Value.int IntKind.u32 7)) 34, type := 4, pos := "law.go:31", after := #[{ on := 8, ground := Ground.data }, { on := 3, ground := Ground.guard }], guard := some (3, true) } : Oper)) (v := ?_) rfl (by kernel_rfl) (by kernel_rfl) (by kernel_rfl) (fun _ _ _ h => h) (Or.inl ⟨by rfl, ?_⟩) hHeld ?_
  rotate_left
  · (intro w hSw; (try dsimp only at hSw); go_simp) <;> with_reducible rfl
  try simp only [Act.put, List.setIfInBounds_toArray, List.set_cons_zero, List.set_cons_succ]
  refine wpAnyH_take (i := 10) (oi := ({ dst := some 27, op := Op.pick (Operand.tmp 20) (Operand.tmp 26) (Operand.const (Value.bool false)), type := 4, pos := "law.go:31", after := #[{ on := 3, ground := Ground.data }, { on := 9, ground := Ground.data }], guard := none } : Oper)) (v := ?_) rfl (by kernel_rfl) (by kernel_rfl) (by kernel_rfl) (fun _ _ _ h => h) (Or.inl ⟨by rfl, ?_⟩) hHeld ?_
  rotate_left
  · (intro w hSw; (try dsimp only at hSw); go_simp) <;> with_reducible rfl
  try simp only [Act.put, List.setIfInBounds_toArray, List.set_cons_zero, List.set_cons_succ]
  refine wpAnyH_take (i := 11) (oi := ({ dst := some 28, op := Op.move (Operand.tmp 27), type := 4, pos := "law.go:31", after := #[{ on := 10, ground := Ground.data }, { on := 3, ground := Ground.chain }], guard := none } : Oper)) (v := ?_) rfl (by kernel_rfl) (by kernel_rfl) (by kernel_rfl) (fun _ _ _ h => h) (Or.inl ⟨by rfl, ?_⟩) hHeld ?_
  rotate_left
  · (intro w hSw; (try dsimp only at hSw); go_simp) <;> with_reducible rfl
  try simp only [Act.put, List.setIfInBounds_toArray, List.set_cons_zero, List.set_cons_succ]
  refine wpAnyH_take (i := 12) (oi := ({ dst := some 29, op := Op.move (Operand.tmp 2), type := 31, pos := "law.go:31", after := #[{ on := 11, ground := Ground.guard }], guard := some (11, true) } : Oper)) (v := ?_) rfl (by kernel_rfl) (by kernel_rfl) (by kernel_rfl) (fun _ _ _ h => h) (Or.inl ⟨by rfl, ?_⟩) hHeld ?_
  rotate_left
  · (intro w hSw; (try dsimp only at hSw); go_simp) <;> with_reducible rfl
  try simp only [Act.put, List.setIfInBounds_toArray, List.set_cons_zero, List.set_cons_succ]
  refine wpAnyH_take (i := 13) (oi := ({ dst := some 30, op := Op.indexAddr 31 (Operand.tmp 29) (Operand.const (Value.int IntKind.i64 0)), type := 0, pos := "law.go:31", after := #[{ on := 12, ground := Ground.data }, { on := 11, ground := Ground.guard }], guard := some (11, true) } : Oper)) (v := ?_) rfl (by kernel_rfl) (by kernel_rfl) (by kernel_rfl) (fun _ _ _ h => h) (Or.inl ⟨by rfl, ?_⟩) hHeld ?_
  rotate_left
  · (intro w hSw; (try dsimp only at hSw); go_simp) <;> with_reducible rfl
  try simp only [Act.put, List.setIfInBounds_toArray, List.set_cons_zero, List.set_cons_succ]
  refine wpAnyH_take (i := 14) (oi := ({ dst := some 31, op := Op.fieldAddr 37 (Operand.tmp 30) 1, type := 0, pos := "law.go:31", after := #[{ on := 13, ground := Ground.data }, { on := 11, ground := Ground.guard }], guard := some (11, true) } : Oper)) (v := ?_) rfl (by kernel_rfl) (by kernel_rfl) (by kernel_rfl) (fun _ _ _ h => h) (Or.inl ⟨by rfl, ?_⟩) hHeld ?_
  rotate_left
  · (intro w hSw; (try dsimp only at hSw); go_simp) <;> with_reducible rfl
  try simp only [Act.put, List.setIfInBounds_toArray, List.set_cons_zero, List.set_cons_succ]
  refine wpAnyH_take (i := 15) (oi := ({ dst := some 32, op := Op.load 34 (Operand.tmp 31), type := 34, pos := "law.go:31", after := #[{ on := 14, ground := Ground.data }, { on := 11, ground := Ground.guard }], guard := some (11, true) } : Oper)) (v := ?_) rfl (by kernel_rfl) (by kernel_rfl) (by kernel_rfl) (fun _ _ _ h => h) (Or.inl ⟨by rfl, ?_⟩) hHeld ?_
  rotate_left
  · (intro w hSw; (try dsimp only at hSw); go_simp) <;> with_reducible rfl
  try simp only [Act.put, List.setIfInBounds_toArray, List.set_cons_zero, List.set_cons_succ]
  refine wpAnyH_take (i := 16) (oi := ({ dst := some 33, op := Op.binOp BinOp.eql 34 (Operand.tmp 32) (Operand.const (Value.int IntKind.u32 1)) 34, type := 4, pos := "law.go:31", after := #[{ on := 15, ground := Ground.data }, { on := 11, ground := Ground.guard }], guard := some (11, true) } : Oper)) (v := ?_) rfl (by kernel_rfl) (by kernel_rfl) (by kernel_rfl) (fun _ _ _ h => h) (Or.inl ⟨by rfl, ?_⟩) hHeld ?_
  rotate_left
  · (intro w hSw; (try dsimp only at hSw); go_simp) <;> with_reducible rfl
  try simp only [Act.put, List.setIfInBounds_toArray, List.set_cons_zero, List.set_cons_succ]
  refine wpAnyH_take (i := 17) (oi := ({ dst := some 34, op := Op.pick (Operand.tmp 28) (Operand.tmp 33) (Operand.const (Value.bool false)), type := 4, pos := "law.go:31", after := #[{ on := 11, ground := Ground.data }, { on := 16, ground := Ground.data }], guard := none } : Oper)) (v := ?_) rfl (by kernel_rfl) (by kernel_rfl) (by kernel_rfl) (fun _ _ _ h => h) (Or.inl ⟨by rfl, ?_⟩) hHeld ?_
  rotate_left
  · (intro w hSw; (try dsimp only at hSw); go_simp) <;> with_reducible rfl
  try simp only [Act.put, List.setIfInBounds_toArray, List.set_cons_zero, List.set_cons_succ]
  refine wpAnyH_take (i := 18) (oi := ({ dst := some 35, op := Op.move (Operand.tmp 34), type := 4, pos := "law.go:31", after := #[{ on := 17, ground := Ground.data }, { on := 11, ground := Ground.chain }], guard := none } : Oper)) (v := ?_) rfl (by kernel_rfl) (by kernel_rfl) (by kernel_rfl) (fun _ _ _ h => h) (Or.inl ⟨by rfl, ?_⟩) hHeld ?_
  rotate_left
  · (intro w hSw; (try dsimp only at hSw); go_simp) <;> with_reducible rfl
  try simp only [Act.put, List.setIfInBounds_toArray, List.set_cons_zero, List.set_cons_succ]
  refine wpAnyH_take (i := 19) (oi := ({ dst := some 36, op := Op.move (Operand.tmp 2), type := 31, pos := "law.go:31", after := #[{ on := 18, ground := Ground.guard }], guard := some (18, true) } : Oper)) (v := ?_) rfl (by kernel_rfl) (by kernel_rfl) (by kernel_rfl) (fun _ _ _ h => h) (Or.inl ⟨by rfl, ?_⟩) hHeld ?_
  rotate_left
  · (intro w hSw; (try dsimp only at hSw); go_simp) <;> with_reducible rfl
  try simp only [Act.put, List.setIfInBounds_toArray, List.set_cons_zero, List.set_cons_succ]
  refine wpAnyH_take (i := 20) (oi := ({ dst := some 37, op := Op.indexAddr 31 (Operand.tmp 36) (Operand.const (Value.int IntKind.i64 2)), type := 0, pos := "law.go:31", after := #[{ on := 19, ground := Ground.data }, { on := 18, ground := Ground.guard }], guard := some (18, true) } : Oper)) (v := ?_) rfl (by kernel_rfl) (by kernel_rfl) (by kernel_rfl) (fun _ _ _ h => h) (Or.inl ⟨by rfl, ?_⟩) hHeld ?_
  rotate_left
  · (intro w hSw; (try dsimp only at hSw); go_simp) <;> with_reducible rfl
  try simp only [Act.put, List.setIfInBounds_toArray, List.set_cons_zero, List.set_cons_succ]
  refine wpAnyH_take (i := 21) (oi := ({ dst := some 38, op := Op.fieldAddr 37 (Operand.tmp 37) 0, type := 0, pos := "law.go:31", after := #[{ on := 20, ground := Ground.data }, { on := 18, ground := Ground.guard }], guard := some (18, true) } : Oper)) (v := ?_) rfl (by kernel_rfl) (by kernel_rfl) (by kernel_rfl) (fun _ _ _ h => h) (Or.inl ⟨by rfl, ?_⟩) hHeld ?_
  rotate_left
  · (intro w hSw; (try dsimp only at hSw); go_simp) <;> with_reducible rfl
  try simp only [Act.put, List.setIfInBounds_toArray, List.set_cons_zero, List.set_cons_succ]
  refine wpAnyH_take (i := 22) (oi := ({ dst := some 39, op := Op.indexAddr 35 (Operand.tmp 38) (Operand.const (Value.int IntKind.i64 0)), type := 0, pos := "law.go:31", after := #[{ on := 21, ground := Ground.data }, { on := 18, ground := Ground.guard }], guard := some (18, true) } : Oper)) (v := ?_) rfl (by kernel_rfl) (by kernel_rfl) (by kernel_rfl) (fun _ _ _ h => h) (Or.inl ⟨by rfl, ?_⟩) hHeld ?_
  rotate_left
  · (intro w hSw; (try dsimp only at hSw); go_simp) <;> with_reducible rfl
  try simp only [Act.put, List.setIfInBounds_toArray, List.set_cons_zero, List.set_cons_succ]
  refine wpAnyH_take (i := 23) (oi := ({ dst := some 40, op := Op.load 34 (Operand.tmp 39), type := 34, pos := "law.go:31", after := #[{ on := 22, ground := Ground.data }, { on := 18, ground := Ground.guard }], guard := some (18, true) } : Oper)) (v := ?_) rfl (by kernel_rfl) (by kernel_rfl) (by kernel_rfl) (fun _ _ _ h => h) (Or.inl ⟨by rfl, ?_⟩) hHeld ?_
  rotate_left
  · (intro w hSw; (try dsimp only at hSw); go_simp) <;> with_reducible rfl
  try simp only [Act.put, List.setIfInBounds_toArray, List.set_cons_zero, List.set_cons_succ]
  refine wpAnyH_take (i := 24) (oi := ({ dst := some 41, op := Op.binOp BinOp.eql 34 (Operand.tmp 40) (Operand.const (Value.int IntKind.u32 1)) 34, type := 4, pos := "law.go:31", after := #[{ on := 23, ground := Ground.data }, { on := 18, ground := Ground.guard }], guard := some (18, true) } : Oper)) (v := ?_) rfl (by kernel_rfl) (by kernel_rfl) (by kernel_rfl) (fun _ _ _ h => h) (Or.inl ⟨by rfl, ?_⟩) hHeld ?_
  rotate_left
  · (intro w hSw; (try dsimp only at hSw); go_simp) <;> with_reducible rfl
  try simp only [Act.put, List.setIfInBounds_toArray, List.set_cons_zero, List.set_cons_succ]
  refine wpAnyH_take (i := 25) (oi := ({ dst := some 42, op := Op.pick (Operand.tmp 35) (Operand.tmp 41) (Operand.const (Value.bool false)), type := 4, pos := "law.go:31", after := #[{ on := 18, ground := Ground.data }, { on := 24, ground := Ground.data }], guard := none } : Oper)) (v := ?_) rfl (by kernel_rfl) (by kernel_rfl) (by kernel_rfl) (fun _ _ _ h => h) (Or.inl ⟨by rfl, ?_⟩) hHeld ?_
  rotate_left
  · (intro w hSw; (try dsimp only at hSw); go_simp) <;> with_reducible rfl
  try simp only [Act.put, List.setIfInBounds_toArray, List.set_cons_zero, List.set_cons_succ]
  refine wpAnyH_take (i := 26) (oi := ({ dst := some 43, op := Op.move (Operand.tmp 42), type := 4, pos := "law.go:31", after := #[{ on := 25, ground := Ground.data }, { on := 18, ground := Ground.chain }], guard := none } : Oper)) (v := ?_) rfl (by kernel_rfl) (by kernel_rfl) (by kernel_rfl) (fun _ _ _ h => h) (Or.inl ⟨by rfl, ?_⟩) hHeld ?_
  rotate_left
  · (intro w hSw; (try dsimp only at hSw); go_simp) <;> with_reducible rfl
  try simp only [Act.put, List.setIfInBounds_toArray, List.set_cons_zero, List.set_cons_succ]
  refine wpAnyH_take (i := 27) (oi := ({ dst := some 44, op := Op.move (Operand.tmp 3), type := 31, pos := "law.go:31", after := #[{ on := 26, ground := Ground.guard }], guard := some (26, true) } : Oper)) (v := ?_) rfl (by kernel_rfl) (by kernel_rfl) (by kernel_rfl) (fun _ _ _ h => h) (Or.inl ⟨by rfl, ?_⟩) hHeld ?_
  rotate_left
  · (intro w hSw; (try dsimp only at hSw); go_simp) <;> with_reducible rfl
  try simp only [Act.put, List.setIfInBounds_toArray, List.set_cons_zero, List.set_cons_succ]
  refine wpAnyH_take (i := 28) (oi := ({ dst := some 45, op := Op.call { callee := Callee.builtin Builtin.len, args := #[Operand.tmp 44], argTypes := #[31] }, type := 3, pos := "law.go:31", after := #[{ on := 27, ground := Ground.data }, { on := 26, ground := Ground.guard }], guard := some (26, true) } : Oper)) (v := ?_) rfl (by kernel_rfl) (by kernel_rfl) (by kernel_rfl) (fun _ _ _ h => h) (Or.inl ⟨by rfl, ?_⟩) hHeld ?_
  rotate_left
  · (intro w hSw; (try dsimp only at hSw); go_simp) <;> with_reducible rfl
  try simp only [Act.put, List.setIfInBounds_toArray, List.set_cons_zero, List.set_cons_succ]
  refine wpAnyH_take (i := 29) (oi := ({ dst := some 46, op := Op.binOp BinOp.eql 3 (Operand.tmp 45) (Operand.const (Value.int IntKind.i64 3)) 3, type := 4, pos := "law.go:31", after := #[{ on := 28, ground := Ground.data }, { on := 26, ground := Ground.guard }], guard := some (26, true) } : Oper)) (v := ?_) rfl (by kernel_rfl) (by kernel_rfl) (by kernel_rfl) (fun _ _ _ h => h) (Or.inl ⟨by rfl, ?_⟩) hHeld ?_
  rotate_left
  · (intro w hSw; (try dsimp only at hSw); go_simp) <;> with_reducible rfl
  try simp only [Act.put, List.setIfInBounds_toArray, List.set_cons_zero, List.set_cons_succ]
  refine wpAnyH_take (i := 30) (oi := ({ dst := some 47, op := Op.pick (Operand.tmp 43) (Operand.tmp 46) (Operand.const (Value.bool false)), type := 4, pos := "law.go:31", after := #[{ on := 26, ground := Ground.data }, { on := 29, ground := Ground.data }], guard := none } : Oper)) (v := ?_) rfl (by kernel_rfl) (by kernel_rfl) (by kernel_rfl) (fun _ _ _ h => h) (Or.inl ⟨by rfl, ?_⟩) hHeld ?_
  rotate_left
  · (intro w hSw; (try dsimp only at hSw); go_simp) <;> with_reducible rfl
  try simp only [Act.put, List.setIfInBounds_toArray, List.set_cons_zero, List.set_cons_succ]
  refine wpAnyH_take (i := 31) (oi := ({ dst := some 48, op := Op.move (Operand.tmp 47), type := 4, pos := "law.go:31", after := #[{ on := 30, ground := Ground.data }, { on := 26, ground := Ground.chain }], guard := none } : Oper)) (v := ?_) rfl (by kernel_rfl) (by kernel_rfl) (by kernel_rfl) (fun _ _ _ h => h) (Or.inl ⟨by rfl, ?_⟩) hHeld ?_
  rotate_left
  · (intro w hSw; (try dsimp only at hSw); go_simp) <;> with_reducible rfl
  try simp only [Act.put, List.setIfInBounds_toArray, List.set_cons_zero, List.set_cons_succ]
  refine wpAnyH_take (i := 32) (oi := ({ dst := some 49, op := Op.move (Operand.tmp 3), type := 31, pos := "law.go:31", after := #[{ on := 31, ground := Ground.guard }], guard := some (31, true) } : Oper)) (v := ?_) rfl (by kernel_rfl) (by kernel_rfl) (by kernel_rfl) (fun _ _ _ h => h) (Or.inl ⟨by rfl, ?_⟩) hHeld ?_
  rotate_left
  · (intro w hSw; (try dsimp only at hSw); go_simp) <;> with_reducible rfl
  try simp only [Act.put, List.setIfInBounds_toArray, List.set_cons_zero, List.set_cons_succ]
  refine wpAnyH_take (i := 33) (oi := ({ dst := some 50, op := Op.indexAddr 31 (Operand.tmp 49) (Operand.const (Value.int IntKind.i64 0)), type := 0, pos := "law.go:31", after := #[{ on := 32, ground := Ground.data }, { on := 31, ground := Ground.guard }], guard := some (31, true) } : Oper)) (v := ?_) rfl (by kernel_rfl) (by kernel_rfl) (by kernel_rfl) (fun _ _ _ h => h) (Or.inl ⟨by rfl, ?_⟩) hHeld ?_
  rotate_left
  · (intro w hSw; (try dsimp only at hSw); go_simp) <;> with_reducible rfl
  try simp only [Act.put, List.setIfInBounds_toArray, List.set_cons_zero, List.set_cons_succ]
  refine wpAnyH_take (i := 34) (oi := ({ dst := some 51, op := Op.fieldAddr 37 (Operand.tmp 50) 0, type := 0, pos := "law.go:31", after := #[{ on := 33, ground := Ground.data }, { on := 31, ground := Ground.guard }], guard := some (31, true) } : Oper)) (v := ?_) rfl (by kernel_rfl) (by kernel_rfl) (by kernel_rfl) (fun _ _ _ h => h) (Or.inl ⟨by rfl, ?_⟩) hHeld ?_
  rotate_left
  · (intro w hSw; (try dsimp only at hSw); go_simp) <;> with_reducible rfl
  try simp only [Act.put, List.setIfInBounds_toArray, List.set_cons_zero, List.set_cons_succ]
  refine wpAnyH_take (i := 35) (oi := ({ dst := some 52, op := Op.indexAddr 35 (Operand.tmp 51) (Operand.const (Value.int IntKind.i64 0)), type := 0, pos := "law.go:31", after := #[{ on := 34, ground := Ground.data }, { on := 31, ground := Ground.guard }], guard := some (31, true) } : Oper)) (v := ?_) rfl (by kernel_rfl) (by kernel_rfl) (by kernel_rfl) (fun _ _ _ h => h) (Or.inl ⟨by rfl, ?_⟩) hHeld ?_
  rotate_left
  · (intro w hSw; (try dsimp only at hSw); go_simp) <;> with_reducible rfl
  try simp only [Act.put, List.setIfInBounds_toArray, List.set_cons_zero, List.set_cons_succ]
  refine wpAnyH_take (i := 36) (oi := ({ dst := some 53, op := Op.load 34 (Operand.tmp 52), type := 34, pos := "law.go:31", after := #[{ on := 35, ground := Ground.data }, { on := 31, ground := Ground.guard }], guard := some (31, true) } : Oper)) (v := ?_) rfl (by kernel_rfl) (by kernel_rfl) (by kernel_rfl) (fun _ _ _ h => h) (Or.inl ⟨by rfl, ?_⟩) hHeld ?_
  rotate_left
  · (intro w hSw; (try dsimp only at hSw); go_simp) <;> with_reducible rfl
  try simp only [Act.put, List.setIfInBounds_toArray, List.set_cons_zero, List.set_cons_succ]
  refine wpAnyH_take (i := 37) (oi := ({ dst := some 54, op := Op.binOp BinOp.eql 34 (Operand.tmp 53) (Operand.const (Value.int IntKind.u32 3)) 34, type := 4, pos := "law.go:31", after := #[{ on := 36, ground := Ground.data }, { on := 31, ground := Ground.guard }], guard := some (31, true) } : Oper)) (v := ?_) rfl (by kernel_rfl) (by kernel_rfl) (by kernel_rfl) (fun _ _ _ h => h) (Or.inl ⟨by rfl, ?_⟩) hHeld ?_
  rotate_left
  · (intro w hSw; (try dsimp only at hSw); go_simp) <;> with_reducible rfl
  try simp only [Act.put, List.setIfInBounds_toArray, List.set_cons_zero, List.set_cons_succ]
  refine wpAnyH_take (i := 38) (oi := ({ dst := some 55, op := Op.pick (Operand.tmp 48) (Operand.tmp 54) (Operand.const (Value.bool false)), type := 4, pos := "law.go:31", after := #[{ on := 31, ground := Ground.data }, { on := 37, ground := Ground.data }], guard := none } : Oper)) (v := ?_) rfl (by kernel_rfl) (by kernel_rfl) (by kernel_rfl) (fun _ _ _ h => h) (Or.inl ⟨by rfl, ?_⟩) hHeld ?_
  rotate_left
  · (intro w hSw; (try dsimp only at hSw); go_simp) <;> with_reducible rfl
  try simp only [Act.put, List.setIfInBounds_toArray, List.set_cons_zero, List.set_cons_succ]
  refine wpAnyH_take (i := 39) (oi := ({ dst := some 56, op := Op.move (Operand.tmp 55), type := 4, pos := "law.go:31", after := #[{ on := 38, ground := Ground.data }, { on := 31, ground := Ground.chain }], guard := none } : Oper)) (v := ?_) rfl (by kernel_rfl) (by kernel_rfl) (by kernel_rfl) (fun _ _ _ h => h) (Or.inl ⟨by rfl, ?_⟩) hHeld ?_
  rotate_left
  · (intro w hSw; (try dsimp only at hSw); go_simp) <;> with_reducible rfl
  try simp only [Act.put, List.setIfInBounds_toArray, List.set_cons_zero, List.set_cons_succ]
  refine wpAnyH_take (i := 40) (oi := ({ dst := some 57, op := Op.move (Operand.tmp 3), type := 31, pos := "law.go:31", after := #[{ on := 39, ground := Ground.guard }], guard := some (39, true) } : Oper)) (v := ?_) rfl (by kernel_rfl) (by kernel_rfl) (by kernel_rfl) (fun _ _ _ h => h) (Or.inl ⟨by rfl, ?_⟩) hHeld ?_
  rotate_left
  · (intro w hSw; (try dsimp only at hSw); go_simp) <;> with_reducible rfl
  try simp only [Act.put, List.setIfInBounds_toArray, List.set_cons_zero, List.set_cons_succ]
  refine wpAnyH_take (i := 41) (oi := ({ dst := some 58, op := Op.indexAddr 31 (Operand.tmp 57) (Operand.const (Value.int IntKind.i64 0)), type := 0, pos := "law.go:31", after := #[{ on := 40, ground := Ground.data }, { on := 39, ground := Ground.guard }], guard := some (39, true) } : Oper)) (v := ?_) rfl (by kernel_rfl) (by kernel_rfl) (by kernel_rfl) (fun _ _ _ h => h) (Or.inl ⟨by rfl, ?_⟩) hHeld ?_
  rotate_left
  · (intro w hSw; (try dsimp only at hSw); go_simp) <;> with_reducible rfl
  try simp only [Act.put, List.setIfInBounds_toArray, List.set_cons_zero, List.set_cons_succ]
  refine wpAnyH_take (i := 42) (oi := ({ dst := some 59, op := Op.fieldAddr 37 (Operand.tmp 58) 1, type := 0, pos := "law.go:31", after := #[{ on := 41, ground := Ground.data }, { on := 39, ground := Ground.guard }], guard := some (39, true) } : Oper)) (v := ?_) rfl (by kernel_rfl) (by kernel_rfl) (by kernel_rfl) (fun _ _ _ h => h) (Or.inl ⟨by rfl, ?_⟩) hHeld ?_
  rotate_left
  · (intro w hSw; (try dsimp only at hSw); go_simp) <;> with_reducible rfl
  try simp only [Act.put, List.setIfInBounds_toArray, List.set_cons_zero, List.set_cons_succ]
  refine wpAnyH_take (i := 43) (oi := ({ dst := some 60, op := Op.load 34 (Operand.tmp 59), type := 34, pos := "law.go:31", after := #[{ on := 42, ground := Ground.data }, { on := 39, ground := Ground.guard }], guard := some (39, true) } : Oper)) (v := ?_) rfl (by kernel_rfl) (by kernel_rfl) (by kernel_rfl) (fun _ _ _ h => h) (Or.inl ⟨by rfl, ?_⟩) hHeld ?_
  rotate_left
  · (intro w hSw; (try dsimp only at hSw); go_simp) <;> with_reducible rfl
  try simp only [Act.put, List.setIfInBounds_toArray, List.set_cons_zero, List.set_cons_succ]
  refine wpAnyH_take (i := 44) (oi := ({ dst := some 61, op := Op.binOp BinOp.eql 34 (Operand.tmp 60) (Operand.const (Value.int IntKind.u32 0)) 34, type := 4, pos := "law.go:31", after := #[{ on := 43, ground := Ground.data }, { on := 39, ground := Ground.guard }], guard := some (39, true) } : Oper)) (v := ?_) rfl (by kernel_rfl) (by kernel_rfl) (by kernel_rfl) (fun _ _ _ h => h) (Or.inl ⟨by rfl, ?_⟩) hHeld ?_
  rotate_left
  · (intro w hSw; (try dsimp only at hSw); go_simp) <;> with_reducible rfl
  try simp only [Act.put, List.setIfInBounds_toArray, List.set_cons_zero, List.set_cons_succ]
  refine wpAnyH_take (i := 45) (oi := ({ dst := some 62, op := Op.pick (Operand.tmp 56) (Operand.tmp 61) (Operand.const (Value.bool false)), type := 4, pos := "law.go:31", after := #[{ on := 39, ground := Ground.data }, { on := 44, ground := Ground.data }], guard := none } : Oper)) (v := ?_) rfl (by kernel_rfl) (by kernel_rfl) (by kernel_rfl) (fun _ _ _ h => h) (Or.inl ⟨by rfl, ?_⟩) hHeld ?_
  rotate_left
  · (intro w hSw; (try dsimp only at hSw); go_simp) <;> with_reducible rfl
  try simp only [Act.put, List.setIfInBounds_toArray, List.set_cons_zero, List.set_cons_succ]
  refine wpAnyH_take (i := 46) (oi := ({ dst := some 63, op := Op.move (Operand.tmp 62), type := 4, pos := "law.go:31", after := #[{ on := 45, ground := Ground.data }, { on := 39, ground := Ground.chain }], guard := none } : Oper)) (v := ?_) rfl (by kernel_rfl) (by kernel_rfl) (by kernel_rfl) (fun _ _ _ h => h) (Or.inl ⟨by rfl, ?_⟩) hHeld ?_
  rotate_left
  · (intro w hSw; (try dsimp only at hSw); go_simp) <;> with_reducible rfl
  try simp only [Act.put, List.setIfInBounds_toArray, List.set_cons_zero, List.set_cons_succ]
  refine wpAnyH_take (i := 47) (oi := ({ dst := some 64, op := Op.move (Operand.tmp 3), type := 31, pos := "law.go:31", after := #[{ on := 46, ground := Ground.guard }], guard := some (46, true) } : Oper)) (v := ?_) rfl (by kernel_rfl) (by kernel_rfl) (by kernel_rfl) (fun _ _ _ h => h) (Or.inl ⟨by rfl, ?_⟩) hHeld ?_
  rotate_left
  · (intro w hSw; (try dsimp only at hSw); go_simp) <;> with_reducible rfl
  try simp only [Act.put, List.setIfInBounds_toArray, List.set_cons_zero, List.set_cons_succ]
  refine wpAnyH_take (i := 48) (oi := ({ dst := some 65, op := Op.indexAddr 31 (Operand.tmp 64) (Operand.const (Value.int IntKind.i64 1)), type := 0, pos := "law.go:31", after := #[{ on := 47, ground := Ground.data }, { on := 46, ground := Ground.guard }], guard := some (46, true) } : Oper)) (v := ?_) rfl (by kernel_rfl) (by kernel_rfl) (by kernel_rfl) (fun _ _ _ h => h) (Or.inl ⟨by rfl, ?_⟩) hHeld ?_
  rotate_left
  · (intro w hSw; (try dsimp only at hSw); go_simp) <;> with_reducible rfl
  try simp only [Act.put, List.setIfInBounds_toArray, List.set_cons_zero, List.set_cons_succ]
  refine wpAnyH_take (i := 49) (oi := ({ dst := some 66, op := Op.fieldAddr 37 (Operand.tmp 65) 0, type := 0, pos := "law.go:31", after := #[{ on := 48, ground := Ground.data }, { on := 46, ground := Ground.guard }], guard := some (46, true) } : Oper)) (v := ?_) rfl (by kernel_rfl) (by kernel_rfl) (by kernel_rfl) (fun _ _ _ h => h) (Or.inl ⟨by rfl, ?_⟩) hHeld ?_
  rotate_left
  · (intro w hSw; (try dsimp only at hSw); go_simp) <;> with_reducible rfl
  try simp only [Act.put, List.setIfInBounds_toArray, List.set_cons_zero, List.set_cons_succ]
  refine wpAnyH_take (i := 50) (oi := ({ dst := some 67, op := Op.indexAddr 35 (Operand.tmp 66) (Operand.const (Value.int IntKind.i64 0)), type := 0, pos := "law.go:31", after := #[{ on := 49, ground := Ground.data }, { on := 46, ground := Ground.guard }], guard := some (46, true) } : Oper)) (v := ?_) rfl (by kernel_rfl) (by kernel_rfl) (by kernel_rfl) (fun _ _ _ h => h) (Or.inl ⟨by rfl, ?_⟩) hHeld ?_
  rotate_left
  · (intro w hSw; (try dsimp only at hSw); go_simp) <;> with_reducible rfl
  try simp only [Act.put, List.setIfInBounds_toArray, List.set_cons_zero, List.set_cons_succ]
  refine wpAnyH_take (i := 51) (oi := ({ dst := some 68, op := Op.load 34 (Operand.tmp 67), type := 34, pos := "law.go:31", after := #[{ on := 50, ground := Ground.data }, { on := 46, ground := Ground.guard }], guard := some (46, true) } : Oper)) (v := ?_) rfl (by kernel_rfl) (by kernel_rfl) (by kernel_rfl) (fun _ _ _ h => h) (Or.inl ⟨by rfl, ?_⟩) hHeld ?_
  rotate_left
  · (intro w hSw; (try dsimp only at hSw); go_simp) <;> with_reducible rfl
  try simp only [Act.put, List.setIfInBounds_toArray, List.set_cons_zero, List.set_cons_succ]
  refine wpAnyH_take (i := 52) (oi := ({ dst := some 69, op := Op.binOp BinOp.eql 34 (Operand.tmp 68) (Operand.const (Value.int IntKind.u32 1)) 34, type := 4, pos := "law.go:31", after := #[{ on := 51, ground := Ground.data }, { on := 46, ground := Ground.guard }], guard := some (46, true) } : Oper)) (v := ?_) rfl (by kernel_rfl) (by kernel_rfl) (by kernel_rfl) (fun _ _ _ h => h) (Or.inl ⟨by rfl, ?_⟩) hHeld ?_
  rotate_left
  · (intro w hSw; (try dsimp only at hSw); go_simp) <;> with_reducible rfl
  try simp only [Act.put, List.setIfInBounds_toArray, List.set_cons_zero, List.set_cons_succ]
  refine wpAnyH_take (i := 53) (oi := ({ dst := some 70, op := Op.pick (Operand.tmp 63) (Operand.tmp 69) (Operand.const (Value.bool false)), type := 4, pos := "law.go:31", after := #[{ on := 46, ground := Ground.data }, { on := 52, ground := Ground.data }], guard := none } : Oper)) (v := ?_) rfl (by kernel_rfl) (by kernel_rfl) (by kernel_rfl) (fun _ _ _ h => h) (Or.inl ⟨by rfl, ?_⟩) hHeld ?_
  rotate_left
  · (intro w hSw; (try dsimp only at hSw); go_simp) <;> with_reducible rfl
  try simp only [Act.put, List.setIfInBounds_toArray, List.set_cons_zero, List.set_cons_succ]
  refine wpAnyH_take (i := 54) (oi := ({ dst := some 71, op := Op.move (Operand.tmp 70), type := 4, pos := "law.go:31", after := #[{ on := 53, ground := Ground.data }, { on := 46, ground := Ground.chain }], guard := none } : Oper)) (v := ?_) rfl (by kernel_rfl) (by kernel_rfl) (by kernel_rfl) (fun _ _ _ h => h) (Or.inl ⟨by rfl, ?_⟩) hHeld ?_
  rotate_left
  · (intro w hSw; (try dsimp only at hSw); go_simp) <;> with_reducible rfl
  try simp only [Act.put, List.setIfInBounds_toArray, List.set_cons_zero, List.set_cons_succ]
  refine wpAnyH_take (i := 55) (oi := ({ dst := some 72, op := Op.move (Operand.tmp 3), type := 31, pos := "law.go:31", after := #[{ on := 54, ground := Ground.guard }], guard := some (54, true) } : Oper)) (v := ?_) rfl (by kernel_rfl) (by kernel_rfl) (by kernel_rfl) (fun _ _ _ h => h) (Or.inl ⟨by rfl, ?_⟩) hHeld ?_
  rotate_left
  · (intro w hSw; (try dsimp only at hSw); go_simp) <;> with_reducible rfl
  try simp only [Act.put, List.setIfInBounds_toArray, List.set_cons_zero, List.set_cons_succ]
  refine wpAnyH_take (i := 56) (oi := ({ dst := some 73, op := Op.indexAddr 31 (Operand.tmp 72) (Operand.const (Value.int IntKind.i64 1)), type := 0, pos := "law.go:31", after := #[{ on := 55, ground := Ground.data }, { on := 54, ground := Ground.guard }], guard := some (54, true) } : Oper)) (v := ?_) rfl (by kernel_rfl) (by kernel_rfl) (by kernel_rfl) (fun _ _ _ h => h) (Or.inl ⟨by rfl, ?_⟩) hHeld ?_
  rotate_left
  · (intro w hSw; (try dsimp only at hSw); go_simp) <;> with_reducible rfl
  try simp only [Act.put, List.setIfInBounds_toArray, List.set_cons_zero, List.set_cons_succ]
  refine wpAnyH_take (i := 57) (oi := ({ dst := some 74, op := Op.fieldAddr 37 (Operand.tmp 73) 1, type := 0, pos := "law.go:31", after := #[{ on := 56, ground := Ground.data }, { on := 54, ground := Ground.guard }], guard := some (54, true) } : Oper)) (v := ?_) rfl (by kernel_rfl) (by kernel_rfl) (by kernel_rfl) (fun _ _ _ h => h) (Or.inl ⟨by rfl, ?_⟩) hHeld ?_
  rotate_left
  · (intro w hSw; (try dsimp only at hSw); go_simp) <;> with_reducible rfl
  try simp only [Act.put, List.setIfInBounds_toArray, List.set_cons_zero, List.set_cons_succ]
  refine wpAnyH_take (i := 58) (oi := ({ dst := some 75, op := Op.load 34 (Operand.tmp 74), type := 34, pos := "law.go:31", after := #[{ on := 57, ground := Ground.data }, { on := 54, ground := Ground.guard }], guard := some (54, true) } : Oper)) (v := ?_) rfl (by kernel_rfl) (by kernel_rfl) (by kernel_rfl) (fun _ _ _ h => h) (Or.inl ⟨by rfl, ?_⟩) hHeld ?_
  rotate_left
  · (intro w hSw; (try dsimp only at hSw); go_simp) <;> with_reducible rfl
  try simp only [Act.put, List.setIfInBounds_toArray, List.set_cons_zero, List.set_cons_succ]
  refine wpAnyH_take (i := 59) (oi := ({ dst := some 76, op := Op.binOp BinOp.eql 34 (Operand.tmp 75) (Operand.const (Value.int IntKind.u32 0)) 34, type := 4, pos := "law.go:31", after := #[{ on := 58, ground := Ground.data }, { on := 54, ground := Ground.guard }], guard := some (54, true) } : Oper)) (v := ?_) rfl (by kernel_rfl) (by kernel_rfl) (by kernel_rfl) (fun _ _ _ h => h) (Or.inl ⟨by rfl, ?_⟩) hHeld ?_
  rotate_left
  · (intro w hSw; (try dsimp only at hSw); go_simp) <;> with_reducible rfl
  try simp only [Act.put, List.setIfInBounds_toArray, List.set_cons_zero, List.set_cons_succ]
  refine wpAnyH_take (i := 60) (oi := ({ dst := some 77, op := Op.pick (Operand.tmp 71) (Operand.tmp 76) (Operand.const (Value.bool false)), type := 4, pos := "law.go:31", after := #[{ on := 54, ground := Ground.data }, { on := 59, ground := Ground.data }], guard := none } : Oper)) (v := ?_) rfl (by kernel_rfl) (by kernel_rfl) (by kernel_rfl) (fun _ _ _ h => h) (Or.inl ⟨by rfl, ?_⟩) hHeld ?_
  rotate_left
  · (intro w hSw; (try dsimp only at hSw); go_simp) <;> with_reducible rfl
  try simp only [Act.put, List.setIfInBounds_toArray, List.set_cons_zero, List.set_cons_succ]
  refine wpAnyH_take (i := 61) (oi := ({ dst := some 78, op := Op.move (Operand.tmp 77), type := 4, pos := "law.go:31", after := #[{ on := 60, ground := Ground.data }, { on := 54, ground := Ground.chain }], guard := none } : Oper)) (v := ?_) rfl (by kernel_rfl) (by kernel_rfl) (by kernel_rfl) (fun _ _ _ h => h) (Or.inl ⟨by rfl, ?_⟩) hHeld ?_
  rotate_left
  · (intro w hSw; (try dsimp only at hSw); go_simp) <;> with_reducible rfl
  try simp only [Act.put, List.setIfInBounds_toArray, List.set_cons_zero, List.set_cons_succ]
  refine wpAnyH_take (i := 62) (oi := ({ dst := some 79, op := Op.move (Operand.tmp 3), type := 31, pos := "law.go:31", after := #[{ on := 61, ground := Ground.guard }], guard := some (61, true) } : Oper)) (v := ?_) rfl (by kernel_rfl) (by kernel_rfl) (by kernel_rfl) (fun _ _ _ h => h) (Or.inl ⟨by rfl, ?_⟩) hHeld ?_
  rotate_left
  · (intro w hSw; (try dsimp only at hSw); go_simp) <;> with_reducible rfl
  try simp only [Act.put, List.setIfInBounds_toArray, List.set_cons_zero, List.set_cons_succ]
  refine wpAnyH_take (i := 63) (oi := ({ dst := some 80, op := Op.indexAddr 31 (Operand.tmp 79) (Operand.const (Value.int IntKind.i64 2)), type := 0, pos := "law.go:31", after := #[{ on := 62, ground := Ground.data }, { on := 61, ground := Ground.guard }], guard := some (61, true) } : Oper)) (v := ?_) rfl (by kernel_rfl) (by kernel_rfl) (by kernel_rfl) (fun _ _ _ h => h) (Or.inl ⟨by rfl, ?_⟩) hHeld ?_
  rotate_left
  · (intro w hSw; (try dsimp only at hSw); go_simp) <;> with_reducible rfl
  try simp only [Act.put, List.setIfInBounds_toArray, List.set_cons_zero, List.set_cons_succ]
  refine wpAnyH_take (i := 64) (oi := ({ dst := some 81, op := Op.fieldAddr 37 (Operand.tmp 80) 1, type := 0, pos := "law.go:31", after := #[{ on := 63, ground := Ground.data }, { on := 61, ground := Ground.guard }], guard := some (61, true) } : Oper)) (v := ?_) rfl (by kernel_rfl) (by kernel_rfl) (by kernel_rfl) (fun _ _ _ h => h) (Or.inl ⟨by rfl, ?_⟩) hHeld ?_
  rotate_left
  · (intro w hSw; (try dsimp only at hSw); go_simp) <;> with_reducible rfl
  try simp only [Act.put, List.setIfInBounds_toArray, List.set_cons_zero, List.set_cons_succ]
  refine wpAnyH_take (i := 65) (oi := ({ dst := some 82, op := Op.load 34 (Operand.tmp 81), type := 34, pos := "law.go:31", after := #[{ on := 64, ground := Ground.data }, { on := 61, ground := Ground.guard }], guard := some (61, true) } : Oper)) (v := ?_) rfl (by kernel_rfl) (by kernel_rfl) (by kernel_rfl) (fun _ _ _ h => h) (Or.inl ⟨by rfl, ?_⟩) hHeld ?_
  rotate_left
  · (intro w hSw; (try dsimp only at hSw); go_simp) <;> with_reducible rfl
  try simp only [Act.put, List.setIfInBounds_toArray, List.set_cons_zero, List.set_cons_succ]
  refine wpAnyH_take (i := 66) (oi := ({ dst := some 83, op := Op.binOp BinOp.eql 34 (Operand.tmp 82) (Operand.const (Value.int IntKind.u32 1)) 34, type := 4, pos := "law.go:31", after := #[{ on := 65, ground := Ground.data }, { on := 61, ground := Ground.guard }], guard := some (61, true) } : Oper)) (v := ?_) rfl (by kernel_rfl) (by kernel_rfl) (by kernel_rfl) (fun _ _ _ h => h) (Or.inl ⟨by rfl, ?_⟩) hHeld ?_
  rotate_left
  · (intro w hSw; (try dsimp only at hSw); go_simp) <;> with_reducible rfl
  try simp only [Act.put, List.setIfInBounds_toArray, List.set_cons_zero, List.set_cons_succ]
  refine wpAnyH_take (i := 67) (oi := ({ dst := some 84, op := Op.pick (Operand.tmp 78) (Operand.tmp 83) (Operand.const (Value.bool false)), type := 4, pos := "law.go:31", after := #[{ on := 61, ground := Ground.data }, { on := 66, ground := Ground.data }], guard := none } : Oper)) (v := ?_) rfl (by kernel_rfl) (by kernel_rfl) (by kernel_rfl) (fun _ _ _ h => h) (Or.inl ⟨by rfl, ?_⟩) hHeld ?_
  rotate_left
  · (intro w hSw; (try dsimp only at hSw); go_simp) <;> with_reducible rfl
  try simp only [Act.put, List.setIfInBounds_toArray, List.set_cons_zero, List.set_cons_succ]
  refine wpAnyH_take (i := 68) (oi := ({ dst := some 85, op := Op.move (Operand.tmp 84), type := 4, pos := "law.go:31", after := #[{ on := 67, ground := Ground.data }, { on := 61, ground := Ground.chain }], guard := none } : Oper)) (v := ?_) rfl (by kernel_rfl) (by kernel_rfl) (by kernel_rfl) (fun _ _ _ h => h) (Or.inl ⟨by rfl, ?_⟩) hHeld ?_
  rotate_left
  · (intro w hSw; (try dsimp only at hSw); go_simp) <;> with_reducible rfl
  try simp only [Act.put, List.setIfInBounds_toArray, List.set_cons_zero, List.set_cons_succ]
  refine wpAnyH_take (i := 69) (oi := ({ dst := some 86, op := Op.load 24 (Operand.tmp 1), type := 24, pos := "law.go:31", after := #[{ on := 68, ground := Ground.guard }], guard := some (68, true) } : Oper)) (v := ?_) rfl (by kernel_rfl) (by kernel_rfl) (by kernel_rfl) (fun _ _ _ h => h) (Or.inl ⟨by rfl, ?_⟩) hHeld ?_
  rotate_left
  · (intro w hSw; (try dsimp only at hSw); go_simp) <;> with_reducible rfl
  try simp only [Act.put, List.setIfInBounds_toArray, List.set_cons_zero, List.set_cons_succ]
  refine wpAnyH_ready (rs := [70]) (by kernel_rfl) (by simp) ?_
  refine AllReadyH.cons (o := ({ dst := some 87, op := Op.buildSlice 25 1 #[(0, Operand.const (Value.int IntKind.i64 2))], type := 25, pos := "law.go:31", after := #[{ on := 68, ground := Ground.guard }], guard := some (68, true) } : Oper)) rfl (fun K hK => ?_) AllReadyH.nil
  go_simp
  have HB3 : Hid (Bl wp (w2.alloc (.cells #[.int .i64 2] 3)).drew) := (HB2.out.alloc _).drew
  have HK3 := Lib.hid (HK2.out.alloc (.cells #[.int .i64 2] 3)).drew
  have HN13 := Lib.hid (HN12.out.bl ((Bl.refl w2).alloc (.cells #[.int .i64 2] 3)).drew)
  have HN23 := Lib.hid (HN2.out.bl ((Bl.refl w2).alloc (.cells #[.int .i64 2] 3)).drew)
  refine hK.out _ _ (aw16_s HK3.out HN13.out HN23.out) (fun hHeld => ?_)
  clear hK K
  try simp only [Act.put, List.setIfInBounds_toArray, List.set_cons_zero, List.set_cons_succ]
  refine wpAnyH_ready (rs := [71]) (by kernel_rfl) (by simp) ?_
  refine AllReadyH.cons (o := ({ dst := some 88, op := Op.call { callee := Callee.value (Operand.func 10), args := #[Operand.tmp 86, Operand.tmp 87], argTypes := #[24, 25] }, type := 31, pos := "law.go:31", after := #[{ on := 69, ground := Ground.data }, { on := 70, ground := Ground.data }, { on := 68, ground := Ground.chain }, { on := 68, ground := Ground.guard }], guard := some (68, true) } : Oper)) rfl (fun K hK => ?_) AllReadyH.nil
  go_simp
  ((with_reducible refine (sprows_any 2 1 0 (some ⟨w.heap.size + 1, 0, none⟩) 2 2 ps14b (some ⟨w2.heap.size, 0, none⟩) 1 1 [2] _ ((w2.alloc (.cells #[.int .i64 2] 3)).drew).heap.size rfl (by decide) (HPw.out _ (HB2.out.alloc _).drew) rfl (by decide) (Nat.le_refl _) ((rdw_lit1 w2 2 rfl).drew.more (HDz.out _)) (Nat.le_refl _)).mono ?_); intro e w3 hp3; obtain ⟨he, hb3⟩ := hp3.no fit16c; subst he)
  have HB4 := Lib.hid (HB3.out.trans hb3)
  have HK4 := Lib.hid (HK3.out.bl hb3)
  have HN14 := Lib.hid (HN13.out.bl hb3)
  have HN24 := Lib.hid (HN23.out.bl hb3)
  clear hp3 hb3
  go_wp2_with fail
  refine hK.out _ _ (aw16_s HK4.out HN14.out HN24.out) (fun hHeld => ?_)
  clear hK K
  try simp only [Act.put, List.setIfInBounds_toArray, List.set_cons_zero, List.set_cons_succ]
  refine wpAnyH_take (i := 72) (oi := ({ dst := some 89, op := Op.call { callee := Callee.builtin Builtin.len, args := #[Operand.tmp 88], argTypes := #[31] }, type := 3, pos := "law.go:31", after := #[{ on := 71, ground := Ground.data }, { on := 68, ground := Ground.guard }], guard := some (68, true) } : Oper)) (v := ?_) rfl (by kernel_rfl) (by kernel_rfl) (by kernel_rfl) (fun _ _ _ h => h) (Or.inl ⟨by rfl, ?_⟩) hHeld ?_
  rotate_left
  · (intro w hSw; (try dsimp only at hSw); go_simp) <;> with_reducible rfl
  try simp only [Act.put, List.setIfInBounds_toArray, List.set_cons_zero, List.set_cons_succ]
  refine wpAnyH_take (i := 73) (oi := ({ dst := some 90, op := Op.binOp BinOp.eql 3 (Operand.tmp 89) (Operand.const (Value.int IntKind.i64 0)) 3, type := 4, pos := "law.go:31", after := #[{ on := 72, ground := Ground.data }, { on := 68, ground := Ground.guard }], guard := some (68, true) } : Oper)) (v := ?_) rfl (by kernel_rfl) (by kernel_rfl) (by kernel_rfl) (fun _ _ _ h => h) (Or.inl ⟨by rfl, ?_⟩) hHeld ?_
  rotate_left
  · (intro w hSw; (try dsimp only at hSw); go_simp) <;> with_reducible rfl
  try simp only [Act.put, List.setIfInBounds_toArray, List.set_cons_zero, List.set_cons_succ]
  refine wpAnyH_take (i := 74) (oi := ({ dst := some 91, op := Op.pick (Operand.tmp 85) (Operand.tmp 90) (Operand.const (Value.bool false)), type := 4, pos := "law.go:31", after := #[{ on := 68, ground := Ground.data }, { on := 73, ground := Ground.data }], guard := none } : Oper)) (v := ?_) rfl (by kernel_rfl) (by kernel_rfl) (by kernel_rfl) (fun _ _ _ h => h) (Or.inl ⟨by rfl, ?_⟩) hHeld ?_
  rotate_left
  · (intro w hSw; (try dsimp only at hSw); go_simp) <;> with_reducible rfl
  try simp only [Act.put, List.setIfInBounds_toArray, List.set_cons_zero, List.set_cons_succ]
  refine wpAnyH_take (i := 75) (oi := ({ dst := some 92, op := Op.move (Operand.tmp 91), type := 4, pos := "law.go:31", after := #[{ on := 74, ground := Ground.data }, { on := 71, ground := Ground.chain }], guard := none } : Oper)) (v := ?_) rfl (by kernel_rfl) (by kernel_rfl) (by kernel_rfl) (fun _ _ _ h => h) (Or.inl ⟨by rfl, ?_⟩) hHeld ?_
  rotate_left
  · (intro w hSw; (try dsimp only at hSw); go_simp) <;> with_reducible rfl
  try simp only [Act.put, List.setIfInBounds_toArray, List.set_cons_zero, List.set_cons_succ]
  refine wpAnyH_take (i := 76) (oi := ({ dst := some 93, op := Op.load 24 (Operand.tmp 1), type := 24, pos := "law.go:31", after := #[{ on := 75, ground := Ground.guard }], guard := some (75, true) } : Oper)) (v := ?_) rfl (by kernel_rfl) (by kernel_rfl) (by kernel_rfl) (fun _ _ _ h => h) (Or.inl ⟨by rfl, ?_⟩) hHeld ?_
  rotate_left
  · (intro w hSw; (try dsimp only at hSw); go_simp) <;> with_reducible rfl
  try simp only [Act.put, List.setIfInBounds_toArray, List.set_cons_zero, List.set_cons_succ]
  refine wpAnyH_take (i := 78) (oi := ({ dst := some 95, op := Op.move (Operand.tmp 2), type := 31, pos := "law.go:31", after := #[{ on := 75, ground := Ground.guard }], guard := some (75, true) } : Oper)) (v := ?_) rfl (by kernel_rfl) (by kernel_rfl) (by kernel_rfl) (fun _ _ _ h => h) (Or.inl ⟨by rfl, ?_⟩) hHeld ?_
  rotate_left
  · (intro w hSw; (try dsimp only at hSw); go_simp) <;> with_reducible rfl
  try simp only [Act.put, List.setIfInBounds_toArray, List.set_cons_zero, List.set_cons_succ]
  refine wpAnyH_take (i := 79) (oi := ({ dst := some 96, op := Op.slice 31 (Operand.tmp 95) (some (Operand.const (Value.int IntKind.i64 1))) none none, type := 31, pos := "law.go:31", after := #[{ on := 78, ground := Ground.data }, { on := 75, ground := Ground.guard }], guard := some (75, true) } : Oper)) (v := ?_) rfl (by kernel_rfl) (by kernel_rfl) (by kernel_rfl) (fun _ _ _ h => h) (Or.inl ⟨by rfl, ?_⟩) hHeld ?_
  rotate_left
  · (intro w hSw; (try dsimp only at hSw); go_simp) <;> with_reducible rfl
  try simp only [Act.put, List.setIfInBounds_toArray, List.set_cons_zero, List.set_cons_succ]
  refine wpAnyH_take (i := 81) (oi := ({ dst := some 98, op := Op.move (Operand.tmp 2), type := 31, pos := "law.go:31", after := #[{ on := 75, ground := Ground.guard }], guard := some (75, true) } : Oper)) (v := ?_) rfl (by kernel_rfl) (by kernel_rfl) (by kernel_rfl) (fun _ _ _ h => h) (Or.inl ⟨by rfl, ?_⟩) hHeld ?_
  rotate_left
  · (intro w hSw; (try dsimp only at hSw); go_simp) <;> with_reducible rfl
  try simp only [Act.put, List.setIfInBounds_toArray, List.set_cons_zero, List.set_cons_succ]
  refine wpAnyH_take (i := 82) (oi := ({ dst := some 99, op := Op.indexAddr 31 (Operand.tmp 98) (Operand.const (Value.int IntKind.i64 0)), type := 0, pos := "law.go:31", after := #[{ on := 81, ground := Ground.data }, { on := 75, ground := Ground.guard }], guard := some (75, true) } : Oper)) (v := ?_) rfl (by kernel_rfl) (by kernel_rfl) (by kernel_rfl) (fun _ _ _ h => h) (Or.inl ⟨by rfl, ?_⟩) hHeld ?_
  rotate_left
  · (intro w hSw; (try dsimp only at hSw); go_simp) <;> with_reducible rfl
  try simp only [Act.put, List.setIfInBounds_toArray, List.set_cons_zero, List.set_cons_succ]
  refine wpAnyH_take (i := 83) (oi := ({ dst := some 100, op := Op.load 37 (Operand.tmp 99), type := 37, pos := "law.go:31", after := #[{ on := 82, ground := Ground.data }, { on := 75, ground := Ground.guard }], guard := some (75, true) } : Oper)) (v := .agg (rc (allN G16 [0, 0]))) rfl (by kernel_rfl) (by kernel_rfl) (by kernel_rfl) (fun _ _ _ h => h) (Or.inl ⟨by rfl, ?_⟩) hHeld ?_
  · intro w0 hSw
    exact exec_load_row (x := .tmp 99) (ty := 37) (b := b1) (off := 0) rfl rfl Try.underlying37 rfl hzi hSw.2.2.2.2.2.2.2.2.2.2.2.2.out
  try simp only [Act.put, List.setIfInBounds_toArray, List.set_cons_zero, List.set_cons_succ]
  refine wpAnyH_ready (rs := [77]) (by kernel_rfl) (by simp) ?_
  refine AllReadyH.cons (o := ({ dst := some 94, op := Op.buildSlice 25 2 #[(0, Operand.const (Value.int IntKind.i64 0)), (1, Operand.const (Value.int IntKind.i64 0))], type := 25, pos := "law.go:31", after := #[{ on := 75, ground := Ground.guard }], guard := some (75, true) } : Oper)) rfl (fun K hK => ?_) AllReadyH.nil
  go_simp
  have HB5 := Lib.hid (HB4.out.alloc (.cells #[.int .i64 0, .int .i64 0] 3))
  have HK5 := Lib.hid (HK4.out.alloc (.cells #[.int .i64 0, .int .i64 0] 3))
  have HN15 := Lib.hid (HN14.out.bl ((Bl.refl w3).alloc (.cells #[.int .i64 0, .int .i64 0] 3)))
  have HN25 := Lib.hid (HN24.out.bl ((Bl.refl w3).alloc (.cells #[.int .i64 0, .int .i64 0] 3)))
  refine hK.out _ _ (aw16_s HK5.out HN15.out HN25.out) (fun hHeld => ?_)
  clear hK K
  try simp only [Act.put, List.setIfInBounds_toArray, List.set_cons_zero, List.set_cons_succ]
  refine wpAnyH_ready (rs := [80]) (by kernel_rfl) (by simp) ?_
  refine AllReadyH.cons (o := ({ dst := some 97, op := Op.call { callee := Callee.value (Operand.func 13), args := #[Operand.tmp 93, Operand.tmp 94, Operand.tmp 96], argTypes := #[24, 25, 31] }, type := 37, pos := "law.go:31", after := #[{ on := 76, ground := Ground.data }, { on := 77, ground := Ground.data }, { on := 79, ground := Ground.data }, { on := 75, ground := Ground.chain }, { on := 75, ground := Ground.guard }], guard := some (75, true) } : Oper)) rfl (fun K hK => ?_) AllReadyH.nil
  go_simp
  have HCut : Hid (Rd (w3.alloc (.cells #[.int .i64 0, .int .i64 0] 3)) (w3.alloc (.cells #[.int .i64 0, .int .i64 0] 3)).heap.size (some ⟨b1, 25, none⟩) (nus (25 * 2) (fun i => allN ⟨2, 1, 0, ps14b⟩ [0, 0] (25 + i)))) := (HN15.out.rd).nus_cut (len := 3) (k := 1) (cap := 3) (Nat.le_refl _) (by decide)
  ((with_reducible refine (spone_any 2 1 0 (some ⟨w.heap.size + 1, 0, none⟩) 2 2 ps14b (some ⟨w3.heap.size, 0, none⟩) 2 2 [0, 0] (some ⟨b1, 25, none⟩) 2 _ (w3.alloc (.cells #[.int .i64 0, .int .i64 0] 3)).heap.size rfl (by decide) (HPw.out _ HB5.out) rfl (by decide) (Nat.le_refl _) (rdw_lit w3 0 0 rfl) (Nat.le_refl _) fit16z HCut.out).mono ?_); rintro e w4 ⟨rfl, hb4⟩)
  have HB6 := Lib.hid (HB5.out.trans hb4)
  have HK6 := Lib.hid (HK5.out.bl hb4)
  have HN16 := Lib.hid (HN15.out.bl hb4)
  have HN26 := Lib.hid (HN25.out.bl hb4)
  clear hb4
  go_wp2_with fail
  refine hK.out _ _ (aw16_s HK6.out HN16.out HN26.out) (fun hHeld => ?_)
  clear hK K
  try simp only [Act.put, List.setIfInBounds_toArray, List.set_cons_zero, List.set_cons_succ]
  refine wpAnyH_take (i := 84) (oi := ({ dst := some 101, op := Op.binOp BinOp.eql 37 (Operand.tmp 97) (Operand.tmp 100) 37, type := 4, pos := "law.go:31", after := #[{ on := 80, ground := Ground.data }, { on := 83, ground := Ground.data }, { on := 75, ground := Ground.guard }], guard := some (75, true) } : Oper)) (v := .bool true) rfl (by kernel_rfl) (by kernel_rfl) (by kernel_rfl) (fun _ _ _ h => h) (Or.inl ⟨by rfl, ?_⟩) hHeld ?_
  · intro w0 _
    have h := fun (o : Oper) (a : Act) ho hx hy => exec_eql_row (P := Try.prog) (w := w0) (o := o) (a := a) (ty := 37) (ty2 := 37) (x := .tmp 97) (y := .tmp 100) (f := Sp.rowN ⟨2, 1, 0, ps14b⟩ [0, 0]) (h := allN G16 [0, 0]) ho hx hy hgt (fun w => eql_row w _ _)
    rw [HSame.out] at h
    exact h _ _ rfl rfl rfl
  try simp only [Act.put, List.setIfInBounds_toArray, List.set_cons_zero, List.set_cons_succ]
  refine wpAnyH_take (i := 85) (oi := ({ dst := some 102, op := Op.pick (Operand.tmp 92) (Operand.tmp 101) (Operand.const (Value.bool false)), type := 4, pos := "law.go:31", after := #[{ on := 75, ground := Ground.data }, { on := 84, ground := Ground.data }], guard := none } : Oper)) (v := ?_) rfl (by kernel_rfl) (by kernel_rfl) (by kernel_rfl) (fun _ _ _ h => h) (Or.inl ⟨by rfl, ?_⟩) hHeld ?_
  rotate_left
  · (intro w hSw; (try dsimp only at hSw); go_simp) <;> with_reducible rfl
  try simp only [Act.put, List.setIfInBounds_toArray, List.set_cons_zero, List.set_cons_succ]
  refine wpAnyH_take (i := 86) (oi := ({ dst := some 0, op := Op.assign (Operand.tmp 102), type := 4, pos := "law.go:31", after := ([{ on := 85, ground := Ground.data }, { on := 80, ground := Ground.chain }, { on := 0, ground := Ground.phase }, { on := 1, ground := Ground.phase }, { on := 2, ground := Ground.phase }, { on := 3, ground := Ground.phase }, { on := 4, ground := Ground.phase }, { on := 5, ground := Ground.phase }, { on := 6, ground := Ground.phase }, { on := 7, ground := Ground.phase }, { on := 8, ground := Ground.phase }, { on := 9, ground := Ground.phase }, { on := 10, ground := Ground.phase }, { on := 11, ground := Ground.phase }, { on := 12, ground := Ground.phase }, { on := 13, ground := Ground.phase }, { on := 14, ground := Ground.phase }, { on := 15, ground := Ground.phase }, { on := 16, ground := Ground.phase }, { on := 17, ground := Ground.phase }, { on := 18, ground := Ground.phase }, { on := 19, ground := Ground.phase }, { on := 20, ground := Ground.phase }, { on := 21, ground := Ground.phase }, { on := 22, ground := Ground.phase }, { on := 23, ground := Ground.phase }, { on := 24, ground := Ground.phase }, { on := 25, ground := Ground.phase }, { on := 26, ground := Ground.phase }, { on := 27, ground := Ground.phase }, { on := 28, ground := Ground.phase }, { on := 29, ground := Ground.phase }, { on := 30, ground := Ground.phase }, { on := 31, ground := Ground.phase }, { on := 32, ground := Ground.phase }, { on := 33, ground := Ground.phase }, { on := 34, ground := Ground.phase }, { on := 35, ground := Ground.phase }, { on := 36, ground := Ground.phase }, { on := 37, ground := Ground.phase }, { on := 38, ground := Ground.phase }, { on := 39, ground := Ground.phase }, { on := 40, ground := Ground.phase }, { on := 41, ground := Ground.phase }].append [{ on := 42, ground := Ground.phase }, { on := 43, ground := Ground.phase }, { on := 44, ground := Ground.phase }, { on := 45, ground := Ground.phase }, { on := 46, ground := Ground.phase }, { on := 47, ground := Ground.phase }, { on := 48, ground := Ground.phase }, { on := 49, ground := Ground.phase }, { on := 50, ground := Ground.phase }, { on := 51, ground := Ground.phase }, { on := 52, ground := Ground.phase }, { on := 53, ground := Ground.phase }, { on := 54, ground := Ground.phase }, { on := 55, ground := Ground.phase }, { on := 56, ground := Ground.phase }, { on := 57, ground := Ground.phase }, { on := 58, ground := Ground.phase }, { on := 59, ground := Ground.phase }, { on := 60, ground := Ground.phase }, { on := 61, ground := Ground.phase }, { on := 62, ground := Ground.phase }, { on := 63, ground := Ground.phase }, { on := 64, ground := Ground.phase }, { on := 65, ground := Ground.phase }, { on := 66, ground := Ground.phase }, { on := 67, ground := Ground.phase }, { on := 68, ground := Ground.phase }, { on := 69, ground := Ground.phase }, { on := 70, ground := Ground.phase }, { on := 71, ground := Ground.phase }, { on := 72, ground := Ground.phase }, { on := 73, ground := Ground.phase }, { on := 74, ground := Ground.phase }, { on := 75, ground := Ground.phase }, { on := 76, ground := Ground.phase }, { on := 77, ground := Ground.phase }, { on := 78, ground := Ground.phase }, { on := 79, ground := Ground.phase }, { on := 80, ground := Ground.phase }, { on := 81, ground := Ground.phase }, { on := 82, ground := Ground.phase }, { on := 83, ground := Ground.phase }, { on := 84, ground := Ground.phase }, { on := 85, ground := Ground.phase }]).toArray, guard := none } : Oper)) (v := ?_) rfl (by kernel_rfl) (by kernel_rfl) (by kernel_rfl) (fun _ _ _ h => h) (Or.inl ⟨by rfl, ?_⟩) hHeld ?_
  rotate_left
  · (intro w hSw; (try dsimp only at hSw); go_simp) <;> with_reducible rfl
  try simp only [Act.put, List.setIfInBounds_toArray, List.set_cons_zero]
  refine wpAnyH_done (by kernel_rfl) ?_ _
  go_wp2_with fail
  go_ret
  exact ⟨rfl, HBa.out.trans HB6.out⟩
end Go.Proofs.Ythfhnjoeippenaa
