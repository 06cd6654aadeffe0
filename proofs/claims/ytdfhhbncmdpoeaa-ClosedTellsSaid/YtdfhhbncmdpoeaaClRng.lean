/- A range over a method value that goes through items: what it promises, and the loop over it. -/
import Derived.Test.YtdfhhbncmdpoeaaClBeg
namespace Go.Proofs.Ytdfhhbncmdpoeaa
open Go.RowKit

/-- What is promised of items that are to be there: each comes, and nothing else; or a round stops it. -/
def SeqM (gf : Nat) (rv : Value) (Req : St4 → Prop) (N : Nat) (w0 : World) : Prop :=
  ∀ (l : Nat) (J Jx : List SX → World → Prop) (W : World), Bl w0 W →
    (∀ s X Y row, J s X → X.grownBy Y row → (∀ r, row = some r → W.heap.size ≤ r ∧ ∃ o : Obj, X.heap[r]? = some o ∧ o.isWalk = true) → J s Y) →
    (∀ pre x W1, J pre W1 → pre.length < N → YieldAt Fence.wide 0 Try.prog l x.enc W1 (RndP J Jx pre x W1)) → J [] W →
    CallsIn Fence.wide 0 Try.prog gf #[rv, .func (.yield l) #[] #[]] W fun e W' => (∃ v, e = .returned v) ∧
      ((∃ ys : List SX, (∀ s, Req s → ∃ y ∈ ys, y.1 = s) ∧ (∀ y ∈ ys, Req y.1) ∧ J ys W') ∨ (∃ ys : List SX, (∀ y ∈ ys, Req y.1) ∧ Jx ys W'))
/-- How a round may be left. -/
def postR (I Ix : List SX → World → Prop) (xs : List SX) (W : World) : Exit → Act → World → Prop
  | .normal, _, W' => KeepsOthers W W' ∧ KpC W W' ∧ I xs W'
  | .ret, _, W' => KeepsOthers W W' ∧ Ix xs W'
  | _, _, _ => False
/-- What lies above w, and holds no cells, may turn. -/
abbrev Abv (w : World) (I : List SX → World → Prop) : Prop := ∀ s X Y row, I s X → X.grownBy Y row → (∀ r, row = some r → w.heap.size ≤ r ∧ ∃ o : Obj, X.heap[r]? = some o ∧ o.isCells = false) → I s Y
theorem Abv.put {w : World} {I : List SX → World → Prop} (h : Abv w I) {s : List SX} {W : World} {l : Nat} {r : Loop} (o' : Obj) (hs : I s W) (hl : w.heap.size ≤ l) (h1 : W.heap[l]? = some (.loop r)) : I s (W.putObj l o') :=
  h s W _ (some l) hs (grownBy_putObj' W l o') fun r e => by cases e; exact ⟨hl, _, h1, rfl⟩
theorem rangeM_in {g : Operand} {ps : Array Tmp} {assign body : Code} {Q : Exit → Act → World → Prop} {a : Act} {w : World} {gf : Nat} {rv : Value} {n : Nat} (hg : a.eval g = .func (.func gf) #[rv] #[]) (eg : ∀ args w, (callFunc gf args).run Try.prog w = .ok (.enter gf args) w)
    {Req : St4 → Prop} {N : Nat} (hseq : SeqM gf rv Req N w) (hps : ps.size = 1) (I Ix : List SX → World → Prop) (hI : Abv w I) (hIx : Abv w Ix) (h0 : I [] w)
    (Ax : SX → Act → World → Prop) (hAx : ∀ x a1, Abv w (fun _ W => Ax x a1 W))
    (hassign : ∀ (l : Nat) (pre : List SX) (x : SX) (W : World) (K : Act → World → Prop), I pre W → (∀ a1 W1, Bl W W1 → I pre W1 → Ax x a1 W1 → K a1 W1) →
      assign.wpIn (Fence.wide.inRound l) 0 Try.prog (Exit.then K (fun _ _ _ => False)) { tmps := (ps.zip x.enc).foldl (fun t (p, v) => t.setIfInBounds p v) a.tmps, defers := [] } W)
    (hbody : ∀ (l : Nat) (pre : List SX) (x : SX) (a1 : Act) (W : World), w.heap.size ≤ l → I pre W → Ax x a1 W → body.wpIn (Fence.wide.inRound l) 0 Try.prog (postR I Ix (pre ++ [x]) W) a1 W)
    (hdone : ∀ (D : Nat) (ys : List SX) (W : World), w.heap.size ≤ D → (∀ s, Req s → ∃ y ∈ ys, y.1 = s) → (∀ y ∈ ys, Req y.1) → I ys W → W.heap[D]? = some (.deferred (some [])) → Q .normal { a with defers := { target := .collected D, args := #[] } :: a.defers } W)
    (hstop : ∀ (D : Nat) (ys : List SX) (W : World), w.heap.size ≤ D → (∀ y ∈ ys, Req y.1) → Ix ys W → W.heap[D]? = some (.deferred (some [])) → Code.ret.wpIn Fence.wide n Try.prog Q { a with defers := { target := .collected D, args := #[] } :: a.defers } W) :
    (Code.rangeFunc g ps assign body).wpIn Fence.wide n Try.prog Q a w := by
  refine wpIn_rangeFunc fun fn hfn => ?_
  -- the loop's record, block l, and the block for deferred calls, block d
  generalize hd : w.heap.size = d
  let rc : LoopState → Option Code → Obj := fun st pe => .loop { state := st, pending := pe, fn, tmps := a.tmps, params := ps, assign, body, defers := d }
  have hent := run_enterLoop_outer (P := Try.prog) (w := w) fn a.tmps ps assign body
  rw [hd] at hent
  have hW : ∃ W1, W1 = (w.alloc (.deferred (some []))).alloc (rc .ready none) := ⟨_, rfl⟩
  obtain ⟨W1, hW1⟩ := hW
  have hb1 : Bl w W1 := by rw [hW1]; exact ((Bl.refl w).alloc _).alloc _
  have hd1 : W1.heap[d]? = some (.deferred (some [])) := by
    rw [hW1, ← hd, Below.heap_alloc _ _ _ (by simp)]
    exact World.alloc_heap_new w _
  have hl1 : W1.heap[d + 1]? = some (rc .ready none) := by
    have := World.alloc_heap_new (w.alloc (.deferred (some []))) (rc .ready none)
    rw [World.size_alloc, hd] at this
    rw [hW1]; exact this
  have hI1 : I [] W1 := hI [] w W1 none h0 ⟨hb1.os, hb1.tape, hb1.output, hb1.size, fun k hk _ => hb1.block k hk⟩ (fun r e => by cases e)
  have hs1 : W1.heap.size = d + 2 := by rw [hW1, World.size_alloc, World.size_alloc, hd]
  refine ⟨d + 1, _, W1, { target := .fn (.func gf) #[], args := #[rv, .func (.yield (d + 1)) #[] #[]] }, W1, gf, #[rv, .func (.yield (d + 1)) #[] #[]], W1, by rw [hW1]; exact hent, ?_, fun _ _ => trivial, ?_, fun h => (by cases h), ?_⟩
  · simp only [resolve, hg]
    simp [go_sem]
  · simp [invoke, go_sem, eg]
  have key := hseq (d + 1) (fun pre W => I pre W ∧ W.heap[d + 1]? = some (rc .ready none) ∧ W.heap[d]? = some (.deferred (some []))) (fun pre W => Ix pre W ∧ W.heap[d + 1]? = some (rc .done (some .ret)) ∧ W.heap[d]? = some (.deferred (some []))) W1 hb1 ?_ ?_ ⟨hI1, hl1, hd1⟩
  · refine callsIn_wide.2 ((callsIn_wide.1 key).mono ?_)
    rintro e W2 ⟨⟨v, rfl⟩, ⟨ys, h1, h2, hi, hl, hk⟩ | ⟨ys, h2, hi, hl, hk⟩⟩
    · exact ⟨none, _, run_endLoop hl (by simp), hdone d ys _ (by omega) h1 h2 (hI.put _ hi (by omega) hl) ((World.putObj_heap_other (by omega)).trans hk)⟩
    · exact ⟨some .ret, _, run_endLoop hl (by simp), hstop d ys _ (by omega) h2 (hIx.put _ hi (by omega) hl) ((World.putObj_heap_other (by omega)).trans hk)⟩
  · rintro s X Y row ⟨h1, h2, h3⟩ hgr hr
    have low : ∀ k, k < d + 2 → some k ≠ row := fun k hk e => by have := (hr k e.symm).1; omega
    refine ⟨hI s X Y row h1 hgr fun r e => ?_, (hgr.block _ (heap_lt h2) (low _ (by omega))).trans h2, (hgr.block _ (heap_lt h3) (low _ (by omega))).trans h3⟩
    obtain ⟨q1, o, q2, q3⟩ := hr r e
    exact ⟨by omega, o, q2, Obj.not_cells_of_walk q3⟩
  · rintro pre x W ⟨hi, hl, hk⟩ _
    have hlt := heap_lt hl
    refine ⟨fn, _, assign, body, run_yield hl (by show (1 : Nat) = ps.size; exact hps.symm), roundIn_of_wpIn hfn (hassign _ pre x W _ hi fun a1 Wa hba hia hax => ?_)⟩
    have hla : Wa.heap[d + 1]? = some (rc .ready none) := (hba.block _ hlt).trans hl
    have hka : Wa.heap[d]? = some (.deferred (some [])) := (hba.block _ (heap_lt hk)).trans hk
    refine ⟨_, run_beginRound hla rfl, ?_⟩
    have hlb : (Wa.putObj (d + 1) (rc .busy none)).heap[d + 1]? = some (rc .busy none) := World.putObj_heap_same (heap_lt hla)
    have hkb : (Wa.putObj (d + 1) (rc .busy none)).heap[d]? = some (.deferred (some [])) := (World.putObj_heap_other (by omega)).trans hka
    have hkp : KpC W (Wa.putObj (d + 1) (rc .busy none)) := (KpC.of_bl hba).trans (KpC.put (d + 1) Wa (d + 1) _ _ (Nat.le_refl _) hla rfl rfl)
    refine wpIn_mono (hbody (d + 1) pre x a1 _ (by omega) (hI.put _ hia (by omega) hla) ((hAx x a1).put (s := []) _ hax (by omega) hla)) ?_
    rintro e a3 W3 hp
    cases e with
    | normal =>
      obtain ⟨h1, h2, h3⟩ := hp
      have hl3 := h1.same _ _ hlb rfl
      have hk3 := h1.same _ _ hkb rfl
      exact ⟨_, _, run_endRound none hl3, .inl ⟨rfl, ⟨hI.put _ h3 (by omega) hl3, World.putObj_heap_same (heap_lt hl3), (World.putObj_heap_other (by omega)).trans hk3⟩, (hkp.trans h2).trans (KpC.put (d + 1) W3 (d + 1) _ _ (Nat.le_refl _) hl3 rfl rfl)⟩⟩
    | ret =>
      obtain ⟨h1, h3⟩ := hp
      have hl3 := h1.same _ _ hlb rfl
      have hk3 := h1.same _ _ hkb rfl
      exact ⟨_, _, run_endRound (some .ret) hl3, .inr ⟨rfl, hIx.put _ h3 (by omega) hl3, World.putObj_heap_same (heap_lt hl3), (World.putObj_heap_other (by omega)).trans hk3⟩⟩
    | exit id => exact hp.elim
    | goto t => exact hp.elim
    | panic ch => exact hp.elim
    | outgrown => exact hp.elim
end Go.Proofs.Ytdfhhbncmdpoeaa
