/- kept.started: Start's productions. What is asked of sets, sentence by sentence. -/
import Derived.Test.YtdfhhbncmdpoeaaClRng
namespace Go.Proofs.Ytdfhhbncmdpoeaa
open Go.RowKit
attribute [local go_sem] Oper.semAt_some

def ReqS (g : Gr.Gm) (s : St4) : Prop := s ∈ begL g (g.start, 0)
def ReqB (g : Gr.Gm) (P : List St4) (s : St4) : Prop := ∃ x, Ch.waitL g P x ≠ [] ∧ s ∈ begL g x
def ReqR (g : Gr.Gm) (P : List St4) (xs : List Int) (m : Nat) (s : St4) : Prop := ∃ t ∈ P, ∃ y, Ch.symAt g t.2 = some y ∧ y.non = false ∧ t.1 < m ∧ xs[t.1]? = some y.n ∧ s = (t.1 + 1, ⟨t.2.prod, t.2.dot + 1, t.2.frm⟩)
def ReqL (g : Gr.Gm) (P : List St4) (s : St4) : Prop := ∃ e ∈ Ch.endL g P, ∃ y ∈ Ch.waitL g P (e.1, e.2.1), s = (e.2.2, ⟨y.prod, y.dot + 1, y.frm⟩)
/-- What is kept, and what it is of. -/
structure ClE (G : Kg) (ps : List Gr.Pr) (base : Nat) (K : Kw) (V : Int × Nat → Value) (P : List St4) (B : Nat) (xs : List Int) (w : World) : Prop where
  k : KeptR G ⟨G.t, G.n, G.s, ps⟩ base K V P w
  len : G.len = ps.length
  ok : Gr.Ok ⟨G.t, G.n, G.s, ps⟩
  prs : Prs w B G.A ps
  rw_ : Rd w B G.Aw (ins xs)
  lw : G.lw ≤ xs.length
  hB : B ≤ w.heap.size
  atl : ∀ s ∈ P, s.1 ≤ G.lw
  fine : ∀ s ∈ P, s.1 ≤ 1000 ∧ imIn ⟨G.t, G.n, G.s, ps⟩ s.2 ∧ s.2.frm ≤ s.1
  few : P.length ≤ 300000
section
variable {G : Kg} {ps : List Gr.Pr} {base : Nat} {K : Kw} {V : Int × Nat → Value} {P : List St4} {B : Nat} {xs : List Int} {w w' : World}
theorem ClE.kpc (h : ClE G ps base K V P B xs w) (k : KpC w w') : ClE G ps base K V P B xs w' :=
  { h with k := h.k.kpc k, prs := h.prs.kpc k, rw_ := h.rw_.kpc k, hB := Nat.le_trans h.hB k.1 }
theorem ClE.bl (h : ClE G ps base K V P B xs w) (k : Bl w w') : ClE G ps base K V P B xs w' := h.kpc (.of_bl k)
theorem ClE.h60 (h : ClE G ps base K V P B xs w) : ps.length ≤ 60 := h.ok.2.2.2.2.2.2.1
theorem ClE.stOk (h : ClE G ps base K V P B xs w) {s : St4} (hs : s ∈ P) : stOk s := by
  obtain ⟨h1, ⟨p, hp, hd⟩, h3⟩ := h.fine s hs
  have h4 : s.2.prod < ps.length := Ch.lt_of_get hp
  have := h.h60
  have h5 := (h.ok.2.2.2.2.2.2.2 p (List.mem_of_getElem? hp)).2.2.1
  exact ⟨by omega, by show s.2.prod < 1000000; omega, by show s.2.dot < 1000000; omega, by show s.2.frm < 1000000; omega⟩
end
/-- A step that turns nothing. -/
theorem bl_grown {w w' : World} (h : Bl w w') : w.grownBy w' none := ⟨h.os, h.tape, h.output, h.size, fun k hk _ => h.block k hk⟩

/-- begin, as those that call it take it. -/
theorem begin_two {G : Kg} {ps : List Gr.Pr} {base : Nat} {K : Kw} {V : Int × Nat → Value} {P : List St4} {B : Nat} {xs : List Int} {W : World} (hE : ClE G ps base K V P B xs W) (n l : Nat) (x1 : Int) (x2 : Nat) (J Jx : List SX → World → Prop) (N B0 : Nat) (hx2 : x2 < 1000000)
    (hJ : ∀ s X Y row, J s X → X.grownBy Y row → (∀ r, row = some r → B0 ≤ r ∧ ∃ o : Obj, X.heap[r]? = some o ∧ o.isWalk = true) → J s Y)
    (hY : ∀ pre x W1, J pre W1 → pre.length < N → YieldAt Fence.wide 0 Try.prog l x.enc W1 (RndP J Jx pre x W1)) (pre0 : List SX) (hN : pre0.length + 60 ≤ N) (h0 : J pre0 W) :
    CallsIn Fence.wide n Try.prog 55 #[.pointer (some ⟨K.p, 0, none⟩), .agg #[.int .i64 x1, .int .i64 (x2 : Int)], .func (.yield l) #[] #[]] W fun e W' =>
      ∃ b : Bool, e = .returned (.bool b) ∧ ((b = true ∧ ∃ ys : List SX, ys.map (·.1) = begL ⟨G.t, G.n, G.s, ps⟩ (x1, x2) ∧ J (pre0 ++ ys) W' ∧ KpC W W') ∨ (b = false ∧ ∃ ys : List SX, (∀ y ∈ ys, y.1 ∈ begL ⟨G.t, G.n, G.s, ps⟩ (x1, x2)) ∧ Jx (pre0 ++ ys) W')) := by
  refine (begin_in G ps base K V P n l x1 x2 J Jx N B hE.len hE.h60 hx2 (fun pre X Y hx hb => hJ pre X Y none hx (bl_grown hb) (fun r e => by cases e)) hY W hE.k hE.prs hE.hB pre0 (by have := hE.h60; omega) h0).mono ?_
  rintro e W2 (⟨ys, h1, rfl, h3, h4⟩ | ⟨ys, h1, rfl, h3⟩)
  · exact ⟨true, rfl, .inl ⟨rfl, ys, h1, h3, h4⟩⟩
  · exact ⟨false, rfl, .inr ⟨rfl, ys, h1, h3⟩⟩
set_option maxRecDepth 100000 in
set_option maxHeartbeats 2000000 in
theorem started_in (G : Kg) (ps : List Gr.Pr) (base : Nat) (K : Kw) (V : Int × Nat → Value) (P : List St4) (B : Nat) (xs : List Int) (w : World) (h : ClE G ps base K V P B xs w) :
    SeqM 38 (.pointer (some ⟨K.p, 0, none⟩)) (ReqS ⟨G.t, G.n, G.s, ps⟩) 60 w := by
  intro l J Jx W hW hJ hY h0
  have hE := h.bl hW
  have hb := begin_two hE 0 l G.s 0 J Jx 60 W.heap.size (by omega) hJ hY [] (by simp) h0
  have hb2 : CallsIn Fence.wide 0 Try.prog 55 #[.pointer (some ⟨K.p, 0, none⟩), .agg #[.int .i64 G.s, .int .i64 0], .func (.yield l) #[] #[]] W _ := hb
  have HB := Lib.hid hb2
  have k2 : W.cell? ⟨K.p, 2, none⟩ = some (.int .i64 G.s) := hE.k.kb.cell 2
  have kl := hE.k.kb.lt
  clear hb hb2 hE hY h0
  refine callsIn_of_wp Try.func38 rfl trivial ?_ rfl
  simp only [Try.ntmps38, List.size_toArray, List.length_cons, List.length_nil, Nat.reduceAdd, Nat.reduceSub, Array.replicate_succ, Array.replicate_zero, List.push_toArray, List.append_toArray, List.nil_append, List.cons_append]
  gi_wp2_with (refine ⟨trivial, (by first | rfl | (intro h; cases h)), ?_⟩; refine HB.out.mono ?_; rintro e W2 ⟨b, rfl, hp⟩; have HP := Lib.hid hp; clear hp)
  go_end0
  refine ⟨⟨_, rfl⟩, ?_⟩
  rcases HP.out with ⟨_, ys, h1, h3, _⟩ | ⟨_, ys, h1, h3⟩
  · refine .inl ⟨ys, fun s hs => ?_, fun y hy => ?_, h3⟩
    · have hs : s ∈ ys.map (·.1) := by rw [h1]; exact hs
      obtain ⟨y, h5, h6⟩ := List.mem_map.1 hs
      exact ⟨y, h5, h6⟩
    · show y.1 ∈ begL _ _
      have : y.1 ∈ ys.map (·.1) := List.mem_map.2 ⟨y, hy, rfl⟩
      rw [h1] at this
      exact this
  · exact .inr ⟨ys, h1, h3⟩
end Go.Proofs.Ytdfhhbncmdpoeaa
