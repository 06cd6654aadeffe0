/- A map of steps: what a step reads as, as a key; a map that tells of each step to which nonterminal it leads; how it is looked up. -/
import Derived.Test.YtbncgjccmadkbaaLIs
import Derived.Maps.OwnSet
import Derived.DeepKeys4
namespace Go.Proofs.Ytbncgjccmadkbaa
open Go.RowKit
open Go.Maps (Keyed)

set_option maxRecDepth 100000 in
theorem st_laid : laidOutB Try.prog = true := by kernel_rfl
set_option maxRecDepth 100000 in
theorem st_row : (138 : TypeId) < Try.prog.types.size := of_decide_eq_true (by kernel_rfl)
set_option maxRecDepth 100000 in
theorem st_wide : (match Try.prog.underlying 138 with | some (.array _ _) | some (.struct _) => true | _ => false) = true := by rw [Try.underlying138]
set_option maxRecDepth 100000 in
theorem st_law : Keyed Try.prog 138 := Keyed.of_law (deep_law_laid st_laid (m := 2) (by omega) st_row (by kernel_rfl) st_wide)
set_option maxRecDepth 100000 in
theorem st_cells : Try.prog.cellsOf 138 = 2 := by kernel_rfl
set_option maxRecDepth 100000 in
theorem st_int : Try.prog.cellsOf 3 = 1 := by kernel_rfl
set_option maxRecDepth 100000 in
theorem st_keyType : Try.prog.keyType 138 = true := by kernel_rfl
set_option maxRecDepth 100000 in
theorem st_zero (w : World) : (zeroValue 3).run Try.prog w = .ok (.int .i64 0) w := by kernel_rfl

set_option maxRecDepth 100000 in
theorem own_some {w : World} {base m c : Nat} {A : Option Addr} {e : TypeId} {size : Nat} {xs : List Value} (h : w.ownsRow base e size (.slice A m c) m xs) (hm : 0 < m) : ∃ g, A = some ⟨g, 0, none⟩ := by
  rcases h.2 with ⟨_, h0⟩ | ⟨g, cap, cur, hv, _⟩
  · omega
  · injection hv with hv; exact ⟨g, hv⟩
/-- A step as a key. -/
def stKey (x : Lf.Stp) : Lit := .string (keyBytes [.int .i64 x.1, .int .i64 x.2])
def Small (x : Lf.Stp) : Prop := x.1 < 9223372036854775808 ∧ x.2 < 9223372036854775808
set_option maxRecDepth 100000 in
theorem wf_small {n : Nat} (h : n < 9223372036854775808) : (Lit.int .i64 (n : Int)).wf = true := by
  simp [Lit.wf, IntKind.min, IntKind.max, IntKind.bits, IntKind.signed]; omega
set_option maxRecDepth 100000 in
theorem key_step {x : Lf.Stp} (h : Small x) : keyOf Try.prog 138 (.agg #[.int .i64 (x.1 : Int), .int .i64 (x.2 : Int)]) = some (stKey x) := by
  obtain ⟨m, hm⟩ : ∃ m, Try.prog.types.size = m + 1 := ⟨Try.prog.types.size - 1, by
    have : 0 < Try.prog.types.size := of_decide_eq_true (by kernel_rfl)
    omega⟩
  have w1 := wf_small h.1
  have w2 := wf_small h.2
  unfold keyOf
  simp only [Try.underlying138]
  rw [if_pos (by simp [st_keyType, Value.formed, Try.underlying138, st_cells]), hm]
  unfold Program.keyLits
  simp only [Try.underlying138, Value.cells]
  simp [st_cells, st_int, Program.keyLits, Try.underlying3, w1, w2, stKey]
set_option maxRecDepth 100000 in
theorem stKey_inj {x y : Lf.Stp} (hx : Small x) (hy : Small y) (h : stKey x = stKey y) : x = y := by
  have h2 := key_step hy
  rw [← h] at h2
  have e := st_law.inj (key_step hx) h2
  injection e with e
  injection e with e
  obtain ⟨x1, x2⟩ := x
  obtain ⟨y1, y2⟩ := y
  simp at e
  rw [show x1 = y1 by omega, show x2 = y2 by omega]

/-- Is a step ahead of production i, place k? -/
def ahead (i k : Nat) (x : Lf.Stp) : Bool := decide (x.1 < i ∨ (x.1 = i ∧ x.2 < k))
set_option maxRecDepth 100000 in
theorem ahead_zero (x : Lf.Stp) : ahead 0 0 x = false := decide_eq_false (by omega)
set_option maxRecDepth 100000 in
theorem ahead_put {i k : Nat} {x : Lf.Stp} (hne : x ≠ (i, k)) : ahead i (k + 1) x = ahead i k x := by
  apply decide_eq_decide.2
  obtain ⟨a, b⟩ := x
  show (a < i ∨ (a = i ∧ b < k + 1)) ↔ (a < i ∨ (a = i ∧ b < k))
  have : ¬ (a = i ∧ b = k) := fun h => hne (by rw [h.1, h.2])
  omega
set_option maxRecDepth 100000 in
theorem ahead_at (i k : Nat) : ahead i (k + 1) (i, k) = true := decide_eq_true (.inr ⟨rfl, Nat.lt_succ_self k⟩)
/-- The map at block b tells of each step ahead of production i, place k, to which nonterminal it leads; of others nothing is there. -/
def ToK (w : World) (b : Nat) (ps : List Gr.Pr) (nl : Nat → Bool) (i k : Nat) : Prop :=
  ∃ (D : DataW Unit) (n : Nat), w.ownsMap Try.prog 138 (plainElem Try.prog 3) b n D ∧ n ≤ i * 8 + k ∧
    (∀ x, Small x → Maps.has D (stKey x) = (Lf.isStep ps nl x && ahead i k x)) ∧ ∀ x, Small x → (Lf.isStep ps nl x && ahead i k x) = true → D.atKey (stKey x) (.lit (.int .i64 0)) = .lit (.int .i64 (Lf.to ps x : Int))
/-- .. of each step. -/
def ToMap (w : World) (b : Nat) (ps : List Gr.Pr) (nl : Nat → Bool) : Prop :=
  ∃ (D : DataW Unit) (n : Nat), w.ownsMap Try.prog 138 (plainElem Try.prog 3) b n D ∧
    (∀ x, Small x → Maps.has D (stKey x) = Lf.isStep ps nl x) ∧ ∀ x, Small x → Lf.isStep ps nl x = true → D.atKey (stKey x) (.lit (.int .i64 0)) = .lit (.int .i64 (Lf.to ps x : Int))
section
variable {w w' : World} {b : Nat} {ps : List Gr.Pr} {nl : Nat → Bool} {i k : Nat}
set_option maxRecDepth 100000 in
theorem ownsMap_bl {n : Nat} {D : DataW Unit} (h : w.ownsMap Try.prog 138 (plainElem Try.prog 3) b n D) (hb : Bl w w') : w'.ownsMap Try.prog 138 (plainElem Try.prog 3) b n D := by
  have hlt := h.lt
  obtain ⟨es, clock, h1, F, hs, hD⟩ := h
  exact ⟨es, clock, (hb.block b hlt).trans h1, F, hs, hD⟩
set_option maxRecDepth 100000 in
theorem ToK.bl (h : ToK w b ps nl i k) (hb : Bl w w') : ToK w' b ps nl i k := by
  obtain ⟨D, n, h1, h2⟩ := h
  exact ⟨D, n, ownsMap_bl h1 hb, h2⟩
set_option maxRecDepth 100000 in
theorem ToK.lt (h : ToK w b ps nl i k) : b < w.heap.size := by obtain ⟨D, n, h1, _⟩ := h; exact h1.lt
set_option maxRecDepth 100000 in
theorem ToMap.bl (h : ToMap w b ps nl) (hb : Bl w w') : ToMap w' b ps nl := by
  obtain ⟨D, n, h1, h2⟩ := h
  exact ⟨D, n, ownsMap_bl h1 hb, h2⟩
set_option maxRecDepth 100000 in
theorem ToMap.lt (h : ToMap w b ps nl) : b < w.heap.size := by obtain ⟨D, n, h1, _⟩ := h; exact h1.lt
set_option maxRecDepth 100000 in
theorem ToK.begin_ (w : World) (ps : List Gr.Pr) (nl : Nat → Bool) : ToK (w.alloc (.map #[] 0)) w.heap.size ps nl 0 0 :=
  ⟨.map [], 0, World.ownsMap_made _ _ _ _, Nat.zero_le _, fun x _ => by rw [ahead_zero, Bool.and_false]; rfl, fun x _ h => by rw [ahead_zero, Bool.and_false] at h; cases h⟩
set_option maxRecDepth 100000 in
/-- What does not lead on, and what stands behind it: nothing is to be put in. -/
theorem ToK.skip (h : ToK w b ps nl i k) (hk : k ≤ 8) (hno : ∀ k', k ≤ k' → Lf.isStep ps nl (i, k') = false) : ToK w b ps nl (i + 1) 0 := by
  obtain ⟨D, n, h1, h2, h3, h4⟩ := h
  have e : ∀ x, (Lf.isStep ps nl x && ahead (i + 1) 0 x) = (Lf.isStep ps nl x && ahead i k x) := by
    intro x
    by_cases hx : x.1 = i ∧ k ≤ x.2
    · have : Lf.isStep ps nl x = false := by
        have h := hno x.2 hx.2
        obtain ⟨a, b⟩ := x
        obtain ⟨e1, e2⟩ := hx
        simp only at e1
        rw [e1]; exact h
      rw [this]; rfl
    · congr 1
      apply decide_eq_decide.2
      omega
  exact ⟨D, n, h1, by omega, fun x hx => by rw [e]; exact h3 x hx, fun x hx => by rw [e]; exact h4 x hx⟩
set_option maxRecDepth 100000 in
theorem step_small {x : Lf.Stp} (h60 : ps.length ≤ 60) (h8 : ∀ p ∈ ps, p.right.length ≤ 8) (h : Lf.isStep ps nl x = true) : x.1 < 60 ∧ x.2 < 8 := by
  obtain ⟨p, s, h1, h2, _⟩ := Lf.step_some h
  have i1 : x.1 < ps.length := by
    rcases Nat.lt_or_ge x.1 ps.length with h | h
    · exact h
    · rw [List.getElem?_eq_none h] at h1; cases h1
  have i2 : x.2 < p.right.length := by
    rcases Nat.lt_or_ge x.2 p.right.length with h | h
    · exact h
    · rw [List.getElem?_eq_none h] at h2; cases h2
  have := h8 p (List.mem_of_getElem? h1)
  omega
set_option maxRecDepth 100000 in
theorem small_step {x : Lf.Stp} (h60 : ps.length ≤ 60) (h8 : ∀ p ∈ ps, p.right.length ≤ 8) (h : Lf.isStep ps nl x = true) : Small x := by
  have := step_small h60 h8 h
  exact ⟨by omega, by omega⟩
set_option maxRecDepth 100000 in
theorem ToK.done (h : ToK w b ps nl ps.length 0) : ToMap w b ps nl := by
  obtain ⟨D, n, h1, h2, h3, h4⟩ := h
  have e : ∀ x, (Lf.isStep ps nl x && ahead ps.length 0 x) = Lf.isStep ps nl x := by
    intro x
    cases hs : Lf.isStep ps nl x with
    | false => rfl
    | true =>
      obtain ⟨p, s, h5, _⟩ := Lf.step_some hs
      have : x.1 < ps.length := by
        rcases Nat.lt_or_ge x.1 ps.length with h | h
        · exact h
        · rw [List.getElem?_eq_none h] at h5; cases h5
      rw [Bool.true_and]
      exact decide_eq_true (.inl this)
  exact ⟨D, n, h1, fun x hx => by rw [h3 x hx, e], fun x hx hs => h4 x hx (by rw [e]; exact hs)⟩
set_option maxRecDepth 100000 in
/-- A step is put in. -/
theorem ToK.put (hs : Lf.isStep ps nl (i, k) = true) (hi : Small (i, k)) {n' : Nat} {D D' : DataW Unit} (hD : w'.ownsMap Try.prog 138 (plainElem Try.prog 3) b n' D') (hn : n' ≤ i * 8 + (k + 1))
    (he : D' = D.put (stKey (i, k)) (.lit (.int .i64 (Lf.to ps (i, k) : Int)))) (hm : Maps.IsMap D)
    (h3 : ∀ x, Small x → Maps.has D (stKey x) = (Lf.isStep ps nl x && ahead i k x)) (h4 : ∀ x, Small x → (Lf.isStep ps nl x && ahead i k x) = true → D.atKey (stKey x) (.lit (.int .i64 0)) = .lit (.int .i64 (Lf.to ps x : Int))) : ToK w' b ps nl i (k + 1) := by
  subst he
  have hk : WideAt.IsKeyLit (stKey (i, k)) := trivial
  refine ⟨_, n', hD, hn, fun x hx => ?_, fun x hx hh => ?_⟩
  · by_cases e : x = (i, k)
    · subst e
      rw [Maps.has_put_same hm hk, hs, ahead_at]; rfl
    · rw [Maps.has_put_other (fun e2 => e (stKey_inj hx hi e2)), h3 x hx, ahead_put e]
  · by_cases e : x = (i, k)
    · subst e
      rw [Maps.atKey_put_same hm hk]
    · rw [ahead_put e] at hh
      rw [Maps.atKey_put_other (fun e2 => e (stKey_inj hx hi e2))]
      exact h4 x hx hh
set_option maxRecDepth 100000 in
theorem ToMap.look (h : ToMap w b ps nl) {x : Lf.Stp} (hx : Small x) (hs : Lf.isStep ps nl x = true) : (Instr.lookup 119 (.map (some b)) (.agg #[.int .i64 (x.1 : Int), .int .i64 (x.2 : Int)]) false).run Try.prog w = .ok (.int .i64 (Lf.to ps x : Int)) w := by
  obtain ⟨D, n, h1, h2, h3⟩ := h
  obtain ⟨c, hrun, hat, _⟩ := h1.lookup_int st_law Try.underlying119 Try.underlying3 (st_zero w) (key_step hx)
  rw [h3 x hx hs] at hat
  injection hat with hat
  injection hat with _ hat
  rw [hrun, ← hat]
set_option maxRecDepth 100000 in
theorem ToMap.look_ok (h : ToMap w b ps nl) {x : Lf.Stp} (hx : Small x) : ∃ c : Int, (Instr.lookup 119 (.map (some b)) (.agg #[.int .i64 (x.1 : Int), .int .i64 (x.2 : Int)]) true).run Try.prog w = .ok (.tuple #[.int .i64 c, .bool (Lf.isStep ps nl x)]) w ∧ (Lf.isStep ps nl x = true → c = (Lf.to ps x : Int)) := by
  obtain ⟨D, n, h1, h2, h3⟩ := h
  obtain ⟨v, qs, hrun, hv⟩ := h1.look_ok st_law Try.underlying119 (st_zero w) (plainElem_int Try.underlying3 (by decide)) (key_step hx)
  obtain ⟨c, rfl, hc, _⟩ := plainElem_int_inv Try.underlying3 hv
  have hc := congrArg Prod.fst hc
  rw [h2 x hx] at hrun
  refine ⟨c, hrun, fun hs => ?_⟩
  have hc : D.atKey (stKey x) (.lit (.int .i64 0)) = .lit (.int .i64 c) := hc
  rw [h3 x hx hs] at hc
  injection hc with hc
  injection hc with _ hc
  exact hc.symm
end
set_option maxRecDepth 100000 in
/-- A look-up at its operation. -/
theorem wpList_look {w : World} {b : Nat} {ps : List Gr.Pr} {nl : Nat → Bool} {ops : Array Oper} {rest : List Oper} {o : Oper} {a : Act} {Q : Exit → Act → World → Prop} (hg : o.guard = none) (m x : Operand) (hop : o.op = Op.lookup 119 m x false)
    (h : ToMap w b ps nl) (y : Lf.Stp) (hy : Small y) (hs : Lf.isStep ps nl y = true) (hm : a.eval m = .map (some b)) (hx : a.eval x = .agg #[.int .i64 (y.1 : Int), .int .i64 (y.2 : Int)])
    (hK : wpList Try.prog ops Q rest (a.put o.dst (.int .i64 (Lf.to ps y : Int))) w) : wpList Try.prog ops Q (o :: rest) a w := by
  refine wpList_plain hg fun K' hK' => ?_
  have hrun := h.look hy hs
  unfold Oper.wp
  simp [execOp, hop, hm, hx, hrun, Result.andThen]
  exact hK' _ _ hK
set_option maxRecDepth 100000 in
theorem wpList_look_ok {w : World} {b : Nat} {ps : List Gr.Pr} {nl : Nat → Bool} {ops : Array Oper} {rest : List Oper} {o : Oper} {a : Act} {Q : Exit → Act → World → Prop} (hg : o.guard = none) (m x : Operand) (hop : o.op = Op.lookup 119 m x true)
    (h : ToMap w b ps nl) (y : Lf.Stp) (hy : Small y) (hm : a.eval m = .map (some b)) (hx : a.eval x = .agg #[.int .i64 (y.1 : Int), .int .i64 (y.2 : Int)])
    (hK : ∀ c : Int, (Lf.isStep ps nl y = true → c = (Lf.to ps y : Int)) → wpList Try.prog ops Q rest (a.put o.dst (.tuple #[.int .i64 c, .bool (Lf.isStep ps nl y)])) w) : wpList Try.prog ops Q (o :: rest) a w := by
  refine wpList_plain hg fun K' hK' => ?_
  obtain ⟨c, hrun, hc⟩ := h.look_ok hy
  unfold Oper.wp
  simp [execOp, hop, hm, hx, hrun, Result.andThen]
  exact hK' _ _ (hK c hc)
set_option maxRecDepth 100000 in
/-- A store at its operation. -/
theorem wpList_step_put {w : World} {b i k m : Nat} {ps : List Gr.Pr} {nl : Nat → Bool} {ops : Array Oper} {rest : List Oper} {o : Oper} {a : Act} {Q : Exit → Act → World → Prop} (hg : o.guard = none) (mm x v : Operand) (hop : o.op = Op.mapUpdate 119 mm x v)
    (h : ToK w b ps nl i k) (h60 : ps.length ≤ 60) (h8 : ∀ p ∈ ps, p.right.length ≤ 8) (hs : Lf.isStep ps nl (i, k) = true) (hto : Lf.to ps (i, k) = m) (hm : a.eval mm = .map (some b)) (hx : a.eval x = .agg #[.int .i64 (i : Int), .int .i64 (k : Int)]) (hv : a.eval v = .int .i64 (m : Int)) (hml : m < 9223372036854775808)
    (hK : ∀ w', ToK w' b ps nl i (k + 1) → w.grownBy w' (some b) → wpList Try.prog ops Q rest (a.put o.dst undef) w') : wpList Try.prog ops Q (o :: rest) a w := by
  have hsm := small_step h60 h8 hs
  have hst := step_small h60 h8 hs
  obtain ⟨D, n, h1, h2, h3, h4⟩ := h
  simp only at hst
  refine wpList_mapUpdate_own w hg mm x v _ hop _ _ st_law Try.underlying119 (plainElem Try.prog 3) b n D hm h1 (by simp only [maxLen]; omega) _ _ _ hx hv (key_step hsm) (.lit (.int .i64 (m : Int))) [] (plainElem_int Try.underlying3 (wf_small hml)) ?_
  intro w' hown hgrow
  exact hK w' (ToK.put (D := D) hs hsm hown (by omega) (by rw [hto]) h1.isMap h3 h4) hgrow
end Go.Proofs.Ytbncgjccmadkbaa
