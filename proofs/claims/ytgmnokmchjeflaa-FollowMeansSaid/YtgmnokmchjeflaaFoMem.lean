/- Places in memory, four cells each. -/
import Derived.Test.YtgmnokmchjeflaaFoPls
import Derived.Test.YtgmnokmchjeflaaFOf
import Derived.Test.YtgmnokmchjeflaaDRow
import Derived.Test.YtgmnokmchjeflaaPrC
namespace Go.Proofs.Ytgmnokmchjeflaa
open Go.RowKit

/-- A place as cells. -/
def plCells (q : Fi.Pl) : List Value := [.int .i64 q.non, .int .i64 q.left, .int .u32 q.behind, .bool q.all]
def plRow (l : List Fi.Pl) : List Value := rowN plCells l
theorem plCells_len (q : Fi.Pl) : (plCells q).length = 4 := rfl
theorem plRow_len (l : List Fi.Pl) : (plRow l).length = l.length * 4 := rowN_len plCells_len l
theorem plRow_snoc (a : List Fi.Pl) (q : Fi.Pl) : plRow (a ++ [q]) = plRow a ++ [.int .i64 q.non, .int .i64 q.left, .int .u32 q.behind, .bool q.all] := rowN_snoc a q
theorem Rd.pl {w : World} {B : Nat} {A : Option Addr} {l : List Fi.Pl} (h : Rd w B A (plRow l)) {i : Nat} (hi : i < l.length) :
    ∃ b off, A = some ⟨b, off, none⟩ ∧ b < B ∧ w.cell? ⟨b, off + i * 4, none⟩ = some (.int .i64 l[i].non) ∧ w.cell? ⟨b, off + i * 4 + 1, none⟩ = some (.int .i64 l[i].left) ∧
      w.cell? ⟨b, off + i * 4 + 2, none⟩ = some (.int .u32 l[i].behind) ∧ w.cell? ⟨b, off + i * 4 + 3, none⟩ = some (.bool l[i].all) := by
  obtain ⟨b, off, e, hb, hc⟩ := h.thing plCells_len (by decide) hi
  exact ⟨b, off, e, hb, hc 0 _ rfl, hc 1 _ rfl, hc 2 _ rfl, hc 3 _ rfl⟩
theorem pl_info : (Try.prog.info? 47).map (fun i => (i.zero, i.size, i.bytes)) = some (some (.agg #[.int .i64 0, .int .i64 0, .int .u32 0, .bool false]), 4, 24) := by kernel_rfl
theorem sy_size : (Try.prog.info? 39).map (·.size) = some 2 := by kernel_rfl
theorem four_new (w : World) (x y z u : Value) (t : TypeId) : ∀ j v, [x, y, z, u][j]? = some v → (w.alloc (.cells #[x, y, z, u] t)).cell? ((⟨w.heap.size, 0, none⟩ : Addr).add j) = some v := by
  intro j v hv
  exact World.news_of_block (cs := #[x, y, z, u]) (t := t) (fr := (0, 0)) (heap_alloc_new w _) j v (by simpa using hv)
theorem own_rdN {w : World} {base n c size : Nat} {e : TypeId} {A : Option Addr} {xs : List Value} (h : w.ownsRow base e size (.slice A n c) n xs) : Rd w w.heap.size A xs := by
  rcases h.2 with ⟨hv, rfl⟩ | ⟨g, cap, cur, hv, _, hg, _, _, _, _⟩
  · have : xs = [] := List.eq_nil_of_length_eq_zero (by simpa using h.1)
    subst this; exact Rd.nil
  · have hA : A = some ⟨g, 0, none⟩ := by injection hv
    subst hA
    exact own_rd h
/-- What places leaves: a row of its own. -/
def PlNew (l : List Fi.Pl) (w : World) (e : Ending) (w' : World) : Prop :=
  ∃ A len c, e = .returned (.slice A len c) ∧ len = l.length ∧ w'.ownsRow w.heap.size 47 4 (.slice A len c) len (plRow l) ∧ Bl w w'
theorem PlNew.lit {l : List Fi.Pl} {k : Nat} {w w' : World} {e : Ending} (h : PlNew l w e w') (hk : l.length = k) : ∃ A c, e = .returned (.slice A k c) ∧ w'.ownsRow w.heap.size 47 4 (.slice A k c) k (plRow l) ∧ Bl w w' := by
  subst hk
  obtain ⟨A, len, c, he, hlen, ho, hb⟩ := h
  subst hlen
  exact ⟨A, c, he, ho, hb⟩
/-- Places on their way: a row of the call's own; the grammar at block gg. -/
structure PlRel (w0 : World) (gg : Nat) (G : Array Value) (l : List Fi.Pl) (v : Value) (w : World) : Prop where
  own : w.ownsRow w0.heap.size 47 4 v l.length (plRow l)
  bg : Bk w gg 24 G
  b : Bl w0 w
section
variable {w0 w w' : World} {gg : Nat} {G : Array Value} {l : List Fi.Pl} {v : Value}
theorem PlRel.bl_ (h : PlRel w0 gg G l v w) (hb : Bl w w') : PlRel w0 gg G l v w' := ⟨own_bl h.own hb, h.bg.bl hb, h.b.trans hb⟩
theorem PlRel.alloc (h : PlRel w0 gg G l v w) (o : Obj) : PlRel w0 gg G l v (w.alloc o) := h.bl_ ((Bl.refl w).alloc o)
theorem PlRel.is {m : List Fi.Pl} (h : PlRel w0 gg G l v w) (e : m = l) : PlRel w0 gg G m v w := by subst e; exact h
theorem PlRel.more {w2 : World} {v2 : Value} {o : Obj} {q : Fi.Pl} (h : PlRel w0 gg G l v w) (ho : w2.ownsRow w0.heap.size 47 4 v2 (l.length + 1) (plRow l ++ [.int .i64 q.non, .int .i64 q.left, .int .u32 q.behind, .bool q.all]))
    (hg : (w.alloc o).grownBy w2 v.ownBlock) : PlRel w0 gg G (l ++ [q]) v2 w2 := by
  refine ⟨?_, (h.bg.alloc o).grown hg fun e => h.bg.row h.own (by decide) e.symm, (h.b.alloc o).grown hg fun k hk => (h.own.lt k hk).1⟩
  rw [plRow_snoc, List.length_append]
  exact ho
/-- Another variable stays, too. -/
theorem PlRel.keep {w2 : World} {o : Obj} {g : Nat} {ty : TypeId} {cs : Array Value} (h : PlRel w0 gg G l v w) (hk : Bk w g ty cs) (hne : 47 ≠ ty) (hg : (w.alloc o).grownBy w2 v.ownBlock) : Bk w2 g ty cs :=
  (hk.alloc o).grown hg fun e => hk.row h.own hne e.symm
end
theorem rd_drew {w : World} {B : Nat} {A : Option Addr} {xs : List Value} (h : Rd w B A xs) : Rd w.drew B A xs := h
/-- What of a grammar's production stands behind a place is the grammar's. -/
theorem mayOf_drop {g : Gr.Gm} (hok : okB g = true) {p : Gr.Pr} (hp : p ∈ g.prods) (k : Nat) : mayOf g (p.right.drop k) = true := by
  rw [mayOf_is hok, List.all_eq_true]
  intro x hx
  exact (okSyB_iff g x).2 (((okB_iff g).1 hok).2.2.2.2.2.2.2 p hp |>.2.2.2 x (List.mem_of_mem_drop hx))
end Go.Proofs.Ytgmnokmchjeflaa
