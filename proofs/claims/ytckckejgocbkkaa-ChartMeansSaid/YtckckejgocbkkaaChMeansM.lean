/- ChartMeans: each item says what comes. -/
import Derived.Test.YtckckejgocbkkaaChAwk
import Derived.Test.YtckckejgocbkkaaChF
import Derived.Test.YtckckejgocbkkaaSpansS
import Derived.Test.YtckckejgocbkkaaOpW
import Derived.Test.YtckckejgocbkkaaTabS
import Derived.Test.YtckckejgocbkkaaFoApp
import Derived.Deep.RegionHeld3
import Derived.BigQuiet
import Derived.Laws.StructEq
namespace Go.Proofs.Ytckckejgocbkkaa
open Go.RowKit
open Cf (Cm part)

theorem cm_int_size : (Try.prog.info? 48).map (·.size) = some 2 := by kernel_rfl
theorem cm_bool_info : (Try.prog.info? 4).map (fun i => (i.zero, i.size, i.bytes)) = some (some (.bool false), 1, 1) := by kernel_rfl
/-- The places at which symbols may end, from a place on. -/
def atC (T : Cf.Tb) (u : List Int) (f : Nat) (l : List Gr.Sy) : Nat → Bool := walkF (l.map (Cf.sym T u)) (upd (fun _ => false) f true)
theorem atC_nil (T : Cf.Tb) (u : List Int) (f : Nat) : atC T u f [] = upd (fun _ => false) f true := rfl
theorem atC_succ (T : Cf.Tb) (u : List Int) (f : Nat) (l : List Gr.Sy) {k : Nat} (hk : k < l.length) : atC T u f (l.take (k + 1)) = stepF (Cf.sym T u l[k]) (atC T u f (l.take k)) := by
  unfold atC
  rw [List.take_succ_eq_append_getElem hk, List.map_append, List.map_singleton, walkF_snoc]
theorem atC_yes {g : Gr.Gm} {u : List Int} {T : Cf.Tb} {f b : Nat} (hs : Cf.Sound g u T) (hc : Cf.Closed g u T) {l : List Gr.Sy} (hl : Cf.Pos l) (h1 : f ≤ b) (h2 : b ≤ u.length) (h : Cm g l (Cf.part u f b)) : atC T u f l b = true := by
  unfold atC
  rw [walkF_map, Cf.walk_iff h2]
  exact ⟨f, by unfold upd; rw [if_pos rfl], (Cf.table_ch hs hc hl h1 h2).2 h⟩
theorem csym_tok (T : Cf.Tb) (u : List Int) (x : Int) (a b : Nat) : Cf.sym T u ⟨false, x⟩ a b = (decide (u[a]? = some x) && decide (b = a + 1)) := by
  unfold Cf.sym
  rw [if_neg (fun h => by cases h), Bool.decide_and]
/-- What an item of a word's sets says. -/
structure Says (g : Gr.Gm) (u : List Int) (T : Cf.Tb) (k : Nat) (x : Ch.Im) : Prop where
  prod : x.prod < g.prods.length
  dot : ∀ p, g.prods[x.prod]? = some p → x.dot ≤ p.right.length ∧ atC T u x.frm (p.right.take x.dot) k = true
  frm : x.frm ≤ k
theorem it_says {g : Gr.Gm} (hg : Gr.Ok g) {u : List Int} {T : Cf.Tb} (hs : Cf.Sound g u T) (hc : Cf.Closed g u T) {k : Nat} {x : Ch.Im} (h : Ch.It g u k x) : Says g u T k x := by
  obtain ⟨h1, h2, p, hp, hd, hcm⟩ := h.means
  refine ⟨Ch.lt_of_get hp, fun q hq => ?_, h1⟩
  rw [hp] at hq
  injection hq with hq
  subst hq
  have hpos := (Cf.ok_pos hg (List.mem_of_getElem? hp)).2
  exact ⟨hd, atC_yes hs hc (fun y hy => hpos y (List.mem_of_mem_take hy)) h1 h2 hcm⟩
theorem inc_ne {l : List Ch.Im} (h : Ch.Inc l) {i : Nat} (h1 : i + 1 < l.length) : l[i] ≠ l[i + 1] := by
  intro e
  have h2 := List.pairwise_iff_getElem.1 h i (i + 1) (by omega) h1 (by omega)
  rw [e] at h2
  exact Ch.lt_irrefl _ h2
end Go.Proofs.Ytckckejgocbkkaa
