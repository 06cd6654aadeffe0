/- The reference's Read: it tells the same grammar, or why there is none. -/
import Derived.Test.YtlfobnpkfloolaaGRead4
import Derived.Test.YtlfobnpkfloolaaGRRight
import Derived.Test.YtlfobnpkfloolaaWRef
namespace Go.Proofs.Ytlfobnpkfloolaa
open Go.RowKit

theorem RRd.put_ {w : World} {B g b o : Nat} {s : Wr.St} (h : RRd w B g s) (hp : B ≤ b) (hne : b ≠ g) (u : Value) : RRd (w.setCell ⟨b, o, none⟩ u) B g s :=
  h.fr (S := fun k => k = b) ((Fr.refl _ w).own o u) (fun e => hne e.symm) (NoByte.above fun k hk => by omega)
theorem RRd.wrongs {w : World} {B g : Nat} {s : Wr.St} (h : RRd w B g s) : w.cell? ⟨g, 1, none⟩ = some (.int .i64 s.e) := by obtain ⟨_, _, _, h, _⟩ := h; exact h.cell 1
theorem OwnP.rrd {w w' : World} {base : Nat} {v : Value} {hs : List Ph} (h : OwnP w base v hs) {B g : Nat} {s : Wr.St} (hg : RRd w B g s) (hf : Fr (fun k => k = g) w w') : OwnP w' base v hs :=
  ⟨own_fr h.1 hf fun k hk e => hg.row h.1 (by decide) (by rw [hk, e]), fun x hx => own_fr (h.2 x hx) hf fun k hk e => hg.row (h.2 x hx) (by decide) (by rw [hk, e])⟩
theorem rdPrs_snoc : ∀ (k : Nat) (s : Wr.St), Gr.rdPrs (k + 1) s = ((Gr.rdPrs k s).1 ++ [(Gr.rdPr (Gr.rdPrs k s).2).1], (Gr.rdPr (Gr.rdPrs k s).2).2)
  | 0, _ => rfl
  | k + 1, s => by
    have ih := rdPrs_snoc k (Gr.rdPr s).2
    rw [Gr.rdPrs, ih]
    rfl
theorem rdPrs_stays {k n : Nat} (hk : k ≤ n) {s : Wr.St} (h : (Gr.rdPrs k s).2.e ≠ 0) : (Gr.rdPrs n s).2 = (Gr.rdPrs k s).2 := by
  rw [← rps_state, ← rps_state]
  rw [← rps_state] at h
  exact rps_stays hk h

/-- Where the inner loop stands: j symbols are read. -/
def NRel (wo : World) (B gr gp : Nat) (left : Int) (s2 : Wr.St) (j : Nat) (wr : World) : Prop :=
  ∃ (A : Option Addr) (c : Nat), wr.ownsRow gp 46 2 (.slice A j c) j (syRow (sys (Wr.many j s2 47).1)) ∧ Bk wr gp 43 #[.int .i64 left, .slice A j c] ∧ RRd wr B gr (Wr.many j s2 47).2 ∧ Fr (fun k => k = gr) wo wr
theorem n_next {wo w3 w4 : World} {B gr gp : Nat} {left : Int} {s2 : Wr.St} {j : Nat} {v v4 : Value} {b : Bool} {q : Int} {o : Obj} (hwo : wo.heap.size = gp) (hB : B ≤ gp) (hgr : gr < gp)
    (ho : w3.ownsRow gp 46 2 v j (syRow (sys (Wr.many j s2 47).1))) (hk : Bk w3 gp 43 #[.int .i64 left, v]) (hr : RRd w3 B gr (Wr.num (Wr.many j s2 47).2 47).2) (hf : Fr (fun k => k = gr) wo w3)
    (ho4 : w4.ownsRow gp 46 2 v4 (j + 1) (syRow (sys (Wr.many j s2 47).1) ++ [.bool b, .int .i64 q])) (hb : b = (Gr.sym (Wr.num (Wr.many j s2 47).2 47).1).non) (hq : q = (Gr.sym (Wr.num (Wr.many j s2 47).2 47).1).n)
    (hg : (w3.alloc o).grownBy w4 v.ownBlock) : NRel wo B gr gp left s2 (j + 1) (w4.setCell ⟨gp, 1, none⟩ v4) := by
  have hk4 : Bk w4 gp 43 #[.int .i64 left, v] := (hk.alloc o).grown hg fun e => hk.row ho (by decide) e.symm
  have hr4 : RRd w4 B gr (Wr.num (Wr.many j s2 47).2 47).2 := (hr.alloc o).grown (ho.alloc o) (by decide) hB hg
  have hf4 : Fr (fun k => k = gr) wo w4 := (hf.alloc o).grown hg fun i hi hlt => absurd (ho.lt i hi).1 (by omega)
  obtain ⟨A4, c4, rfl, _⟩ := own_form ho4
  have e := Wr.many_snoc j s2 47
  refine ⟨A4, c4, ?_, hk4.put 1 _, ?_, hf4.put_ (by omega) _⟩
  · rw [e, sys_snoc, syRow_snoc, ← hb, ← hq]
    exact own_put_ ho4 (hk4.row ho4 (by decide)) _
  · rw [e]
    exact hr4.put_ hB (by omega) _

/-- Where the outer loop stands: k productions are read. -/
def QRel (w : World) (B : Nat) (na nb nc : Int) (s4 : Wr.St) (k : Nat) (wr : World) : Prop :=
  ∃ (A : Option Addr) (c : Nat) (hs : List Ph), hs.map Ph.pr = (Gr.rdPrs k s4).1 ∧ hs.length = k ∧ OwnP wr w.heap.size (.slice A k c) hs ∧ Bk wr (w.heap.size + 1 + 1) 24 #[.int .i64 na, .int .i64 nb, .int .i64 nc, .slice A k c] ∧
    Bk wr w.heap.size 24 #[.int .i64 0, .int .i64 0, .int .i64 0, .slice none 0 0] ∧ RRd wr B (w.heap.size + 1) (Gr.rdPrs k s4).2 ∧ Bl w wr
theorem q_next {w wo wr w5 : World} {B : Nat} {na nb nc left : Int} {s4 : Wr.St} {k : Nat} {hs : List Ph} {A As : Option Addr} {c cs : Nat} {v5 : Value} {ss : List Gr.Sy} {gp : Nat} {o : Obj} {st : Wr.St} (hw : w.heap.size ≤ gp)
    (hm : hs.map Ph.pr = (Gr.rdPrs k s4).1) (hl : hs.length = k) (ho : OwnP wo w.heap.size (.slice A k c) hs) (hk : Bk wo (w.heap.size + 1 + 1) 24 #[.int .i64 na, .int .i64 nb, .int .i64 nc, .slice A k c])
    (hz : Bk wo w.heap.size 24 #[.int .i64 0, .int .i64 0, .int .i64 0, .slice none 0 0]) (hb : Bl w wo) (hgr : RRd wo B (w.heap.size + 1) st)
    (hys : wr.ownsRow gp 46 2 (.slice As ss.length cs) ss.length (syRow ss)) (hr : RRd wr B (w.heap.size + 1) (Gr.rdPrs (k + 1) s4).2) (hf : Fr (fun i => i = w.heap.size + 1) wo wr) (hB : B ≤ w.heap.size)
    (hp : (Gr.rdPr (Gr.rdPrs k s4).2).1 = ⟨left, ss⟩)
    (ho5 : w5.ownsRow w.heap.size 43 2 v5 (k + 1) (phRow hs ++ [.int .i64 left, .slice As ss.length cs])) (hg : (wr.alloc o).grownBy w5 (Value.slice A k c).ownBlock) :
    QRel w B na nb nc s4 (k + 1) (w5.setCell ⟨w.heap.size + 1 + 1, 3, none⟩ v5) := by
  have ho' : OwnP wr w.heap.size (.slice A k c) hs := ho.rrd hgr hf
  have hk' := hk.fr hf (by omega)
  have hz' := hz.fr hf (by omega)
  have row' : wr.ownsRow w.heap.size 43 2 (.slice A k c) k (phRow hs) := by have := ho'.1; rw [hl] at this; exact this
  have hk5 : Bk w5 (w.heap.size + 1 + 1) 24 #[.int .i64 na, .int .i64 nb, .int .i64 nc, .slice A k c] := (hk'.alloc o).grown hg fun e => hk'.row row' (by decide) e.symm
  have hz5 : Bk w5 w.heap.size 24 #[.int .i64 0, .int .i64 0, .int .i64 0, .slice none 0 0] := (hz'.alloc o).grown hg fun e => hz'.row row' (by decide) e.symm
  have hr5 : RRd w5 B (w.heap.size + 1) (Gr.rdPrs (k + 1) s4).2 := (hr.alloc o).grown (row'.alloc o) (by decide) hB hg
  have hb5 : Bl w w5 := ((hb.fr hf fun i hi e => by omega).alloc o).grown hg fun i hi => (row'.lt i hi).1
  have hn : OwnP w5 w.heap.size v5 (hs ++ [⟨left, ss, As, cs⟩]) := ho'.next hys hw (by rw [hl]; exact ho5) hg
  obtain ⟨A5, c5, rfl, _⟩ := own_form ho5
  refine ⟨A5, c5, hs ++ [⟨left, ss, As, cs⟩], ?_, by simp [hl], hn.put_ hk5 _, hk5.put 3 _, hz5.far (p := ⟨w.heap.size + 1 + 1, 3, none⟩) (by simp; omega) _, hr5.put_ (by omega) (by omega) _, ?_⟩
  · rw [rdPrs_snoc, hp]; exact map_snoc_pr hm ⟨left, ss⟩ As cs
  · exact hb5.fr (S := fun i => i = w.heap.size + 1 + 1) ((Fr.refl _ w5).own 3 _) fun i hi e => by omega
end Go.Proofs.Ytlfobnpkfloolaa
