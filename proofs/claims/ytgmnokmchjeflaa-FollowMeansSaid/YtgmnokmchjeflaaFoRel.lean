/- What follow.Follow keeps: the sets, a row of its own; the places, another one; the grammar. -/
import Derived.Test.YtgmnokmchjeflaaFoPlaces
namespace Go.Proofs.Ytgmnokmchjeflaa
open Go.RowKit

/-- The sets at block gf, the places, the grammar at block gg. -/
structure WRel (w0 : World) (gg : Nat) (G : Array Value) (N gf cf : Nat) (Ap : Option Addr) (np cp : Nat) (pl : List Fi.Pl) (W : List Nat) (w : World) : Prop where
  bg : Bk w gg 24 G
  own : w.ownsRow w0.heap.size 33 1 (.slice (some ⟨gf, 0, none⟩) N cf) N (us W)
  row : w.ownsRow w0.heap.size 47 4 (.slice Ap np cp) np (plRow pl)
  len_ : W.length = N
  b : Bl w0 w
section
variable {w0 w w' : World} {gg : Nat} {G : Array Value} {N gf cf : Nat} {Ap : Option Addr} {np cp : Nat} {pl : List Fi.Pl} {W V : List Nat}
theorem WRel.bl_ (h : WRel w0 gg G N gf cf Ap np cp pl W w) (hb : Bl w w') : WRel w0 gg G N gf cf Ap np cp pl W w' := ⟨h.bg.bl hb, own_bl h.own hb, own_bl h.row hb, h.len_, h.b.trans hb⟩
theorem WRel.alloc (h : WRel w0 gg G N gf cf Ap np cp pl W w) (o : Obj) : WRel w0 gg G N gf cf Ap np cp pl W (w.alloc o) := h.bl_ ((Bl.refl w).alloc o)
theorem WRel.drew (h : WRel w0 gg G N gf cf Ap np cp pl W w) : WRel w0 gg G N gf cf Ap np cp pl W w.drew := h.bl_ (Bl.refl w).drew
theorem WRel.is (h : WRel w0 gg G N gf cf Ap np cp pl W w) (e : V = W) : WRel w0 gg G N gf cf Ap np cp pl V w := by subst e; exact h
theorem WRel.rd (h : WRel w0 gg G N gf cf Ap np cp pl W w) : Rd w w.heap.size (some ⟨gf, 0, none⟩) (us W) := Rd.own h.own
theorem WRel.rdp (h : WRel w0 gg G N gf cf Ap np cp pl W w) : Rd w w.heap.size Ap (plRow pl) := own_rdN h.row
theorem WRel.cell (h : WRel w0 gg G N gf cf Ap np cp pl W w) {m : Nat} (hm : m < N) : w.cell? ⟨gf, m, none⟩ = some (.int .u32 (W.getD m 0 : Int)) :=
  (h.own.cellAt m (by omega)).trans (us_at W m (by rw [h.len_]; exact hm))
theorem WRel.free (h : WRel w0 gg G N gf cf Ap np cp pl W w) (j : Nat) : w.frozen? ⟨gf, j, none⟩ = false := h.own.frozenAt j
theorem WRel.glt (h : WRel w0 gg G N gf cf Ap np cp pl W w) : gf < w.heap.size := (h.own.lt gf rfl).2
/-- A variable of another type is another block. -/
theorem WRel.far {g : Nat} {ty : TypeId} {cs : Array Value} (h : WRel w0 gg G N gf cf Ap np cp pl W w) (hk : Bk w g ty cs) (hne : 33 ≠ ty) (m : Nat) (u : Value) : Bk (w.setCell ⟨gf, m, none⟩ u) g ty cs :=
  hk.far (p := ⟨gf, m, none⟩) (fun e => hk.row h.own hne (by rw [e]; rfl)) u
theorem WRel.put (h : WRel w0 gg G N gf cf Ap np cp pl W w) (m v : Nat) : WRel w0 gg G N gf cf Ap np cp pl (W.set m v) (w.setCell ⟨gf, m, none⟩ (.int .u32 (v : Int))) := by
  have hfr : Fr (fun k => k = gf) w (w.setCell ⟨gf, m, none⟩ (.int .u32 (v : Int))) := (Fr.refl _ w).own _ _
  have h1 := (h.own.stored m (.int .u32 (v : Int))).1
  have hlow := (h.own.lt gf rfl).1
  refine ⟨h.far h.bg (by decide) _ _, by rw [us_set]; exact h1, ?_, by rw [List.length_set]; exact h.len_, h.b.fr hfr fun k hk e => by omega⟩
  refine own_fr h.row hfr fun k hk e => ?_
  subst e
  rcases h.own.2 with ⟨hv, _⟩ | ⟨g, cap, cur, hv, _, hg, _⟩
  · cases hv
  · have hgk : g = k := by injection hv with hv; injection hv with hv; injection hv with hv; exact hv.symm
    subst hgk
    exact Bk.row (t := 33) hg h.row (by decide) hk
theorem WRel.putx (h : WRel w0 gg G N gf cf Ap np cp pl W w) {m v : Nat} {x : Int} (hx : x = (v : Int)) : WRel w0 gg G N gf cf Ap np cp pl (W.set m v) (w.setCell ⟨gf, m, none⟩ (.int .u32 x)) := by
  subst hx; exact h.put m v
end
end Go.Proofs.Ytgmnokmchjeflaa
