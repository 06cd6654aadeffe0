/- Rows of rows: slices that lie in blocks of one element type; what leaves the blocks of a type as they are. No program is named here. -/
import Derived.Test.YtckckejgocbkkaaDRow
import Derived.Lib.OwnKind
import Derived.OwnWalk
namespace Go.Proofs.Ytckckejgocbkkaa
open Go.RowKit

/-- The slice at A reads as the cells xs, in a block of element type t. -/
def RdT (w : World) (t : TypeId) (A : Option Addr) (xs : List Value) : Prop :=
  0 < xs.length → ∃ b off cs fr, A = some ⟨b, off, none⟩ ∧ w.heap[b]? = some (.cells cs t fr) ∧ ∀ j u, xs[j]? = some u → w.cell? ⟨b, off + j, none⟩ = some u
/-- Of the blocks of element type t none has turned. -/
def KeepT (t : TypeId) (w w' : World) : Prop := ∀ (b : Nat) (cs : Array Value) (fr : Nat × Nat), w.heap[b]? = some (.cells cs t fr) → w'.heap[b]? = some (.cells cs t fr)
theorem heap_lt {w : World} {b : Nat} {o : Obj} (h : w.heap[b]? = some o) : b < w.heap.size := by
  rcases Nat.lt_or_ge b w.heap.size with hl | hl
  · exact hl
  · rw [Array.getElem?_eq_none hl] at h; cases h
section
variable {t e : TypeId} {w w' w2 : World}
theorem KeepT.refl (t : TypeId) (w : World) : KeepT t w w := fun _ _ _ h => h
theorem KeepT.trans (h : KeepT t w w') (k : KeepT t w' w2) : KeepT t w w2 := fun b cs fr hb => k b cs fr (h b cs fr hb)
theorem KeepT.of_bl (h : Bl w w') : KeepT t w w' := fun b _ _ hb => (h.block b (heap_lt hb)).trans hb
theorem KeepT.bl (h : KeepT t w w') (k : Bl w' w2) : KeepT t w w2 := h.trans (.of_bl k)
theorem KeepT.alloc (h : KeepT t w w') (o : Obj) : KeepT t w (w'.alloc o) := h.bl ((Bl.refl w').alloc o)
theorem KeepT.drew (h : KeepT t w w') : KeepT t w w'.drew := h
theorem KeepT.drewN (h : KeepT t w w') (n : Nat) : KeepT t w (w'.drewN n) := h
/-- A cell of a row of another type. -/
theorem KeepT.put {base size n c g j : Nat} {xs : List Value} (ho : w.ownsRow base e size (.slice (some ⟨g, 0, none⟩) n c) n xs) (hne : e ≠ t) (u : Value) : KeepT t w (w.setCell ⟨g, j, none⟩ u) := fun b cs fr hb => by
  obtain ⟨c2, f2, hg⟩ := Go.Lib.ownsRow_kind ho g rfl
  refine (Below.heap_setCell w ⟨g, j, none⟩ u b ?_).trans hb
  intro (e2 : b = g)
  subst e2
  rw [hg] at hb
  injection hb with hb
  injection hb with _ h2
  exact hne h2
theorem KeepT.put_bk {g j : Nat} {cs : Array Value} (ho : Bk w g e cs) (hne : e ≠ t) (u : Value) : KeepT t w (w.setCell ⟨g, j, none⟩ u) := fun b ds fr hb => by
  refine (Below.heap_setCell w ⟨g, j, none⟩ u b ?_).trans hb
  intro (e2 : b = g)
  subst e2
  unfold Bk at ho
  rw [ho] at hb
  injection hb with hb
  injection hb with _ h2
  exact hne h2
/-- An append onto a row of another type. -/
theorem KeepT.grown {base size n : Nat} {v : Value} {xs : List Value} (ho : w.ownsRow base e size v n xs) (hg : w.grownBy w' v.ownBlock) (hne : e ≠ t) : KeepT t w w' := fun b cs fr hb => by
  refine (hg.block b (heap_lt hb) ?_).trans hb
  intro h1
  obtain ⟨c2, f2, hk⟩ := Go.Lib.ownsRow_kind ho b h1.symm
  rw [hk] at hb
  injection hb with hb
  injection hb with _ h2
  exact hne h2
end
section
variable {t : TypeId} {w w' : World} {A : Option Addr} {xs : List Value}
theorem RdT.nil : RdT w t A [] := fun h => absurd h (by simp)
theorem RdT.keep (h : RdT w t A xs) (hk : KeepT t w w') : RdT w' t A xs := fun hn => by
  obtain ⟨b, off, cs, fr, e, hb, hc⟩ := h hn
  have hb' := hk b cs fr hb
  exact ⟨b, off, cs, fr, e, hb', fun j u hu => (World.cell?_of_block (hb'.trans hb.symm)).trans (hc j u hu)⟩
theorem RdT.rd (h : RdT w t A xs) : Rd w w.heap.size A xs := fun hn => by
  obtain ⟨b, off, cs, fr, e, hb, hc⟩ := h hn
  exact ⟨b, off, e, heap_lt hb, hc⟩
theorem RdT.of_own {base size n c : Nat} (h : w.ownsRow base t size (.slice A n c) n xs) : RdT w t A xs := by
  rcases h.2 with ⟨hv, rfl⟩ | ⟨g, cap, cur, hv, _, hg, _, _, _, _⟩
  · have : xs = [] := List.eq_nil_of_length_eq_zero (by simpa using h.1)
    subst this; exact RdT.nil
  · have hA : A = some ⟨g, 0, none⟩ := by injection hv
    subst hA
    intro _
    refine ⟨g, 0, _, _, rfl, hg, fun j u hu => ?_⟩
    have := h.cells (g := g) rfl j u hu
    unfold Addr.add at this
    split at this
    · rename_i hj; subst hj; simpa using this
    · simpa using this
end

/-- The cells cs are slices, in blocks of element type t, that read as the rows rs. -/
def RowsT {α : Type} (w : World) (t : TypeId) (f : α → List Value) (cs : List Value) (rs : List (List α)) : Prop :=
  cs.length = rs.length ∧ ∀ i, i < rs.length → ∃ A c, cs[i]? = some (.slice A (rs.getD i []).length c) ∧ (rs.getD i []).length ≤ c ∧ RdT w t A (rowN f (rs.getD i []))
section
variable {α : Type} {t : TypeId} {f : α → List Value} {w w' : World} {cs : List Value} {rs : List (List α)}
theorem RowsT.keep (h : RowsT w t f cs rs) (hk : KeepT t w w') : RowsT w' t f cs rs := ⟨h.1, fun i hi => by
  obtain ⟨A, c, h1, h2, h3⟩ := h.2 i hi
  exact ⟨A, c, h1, h2, h3.keep hk⟩⟩
theorem RowsT.nils (n : Nat) : RowsT w t f (List.replicate n (.slice none 0 0)) (List.replicate n []) := by
  refine ⟨by simp, fun i hi => ?_⟩
  have hi' : i < n := by simpa using hi
  have e : (List.replicate n ([] : List α)).getD i [] = [] := by rw [List.getD_eq_getElem?_getD, List.getElem?_replicate, if_pos hi']; rfl
  rw [e]
  exact ⟨none, 0, by rw [List.getElem?_replicate, if_pos hi']; rfl, Nat.le_refl _, RdT.nil⟩
theorem RowsT.set (h : RowsT w t f cs rs) {i : Nat} {r : List α} {A : Option Addr} {n c : Nat} (hn : n = r.length) (hc : n ≤ c) (hr : RdT w t A (rowN f r)) : RowsT w t f (cs.set i (.slice A n c)) (rs.set i r) := by
  subst hn
  refine ⟨by rw [List.length_set, List.length_set]; exact h.1, fun k hk => ?_⟩
  rw [List.length_set] at hk
  by_cases e : i = k
  · subst e
    have e2 : (rs.set i r).getD i [] = r := by rw [List.getD_eq_getElem?_getD, List.getElem?_set, if_pos rfl, if_pos hk]; rfl
    rw [e2]
    exact ⟨A, c, by rw [List.getElem?_set, if_pos rfl, if_pos (by rw [h.1]; exact hk)], hc, hr⟩
  · have e2 : (rs.set i r).getD k [] = rs.getD k [] := by rw [List.getD_eq_getElem?_getD, List.getD_eq_getElem?_getD, List.getElem?_set, if_neg e]
    rw [e2, List.getElem?_set, if_neg e]
    exact h.2 k hk
theorem RowsT.snoc (h : RowsT w t f cs rs) {r : List α} {A : Option Addr} {n c : Nat} (hn : n = r.length) (hc : n ≤ c) (hr : RdT w t A (rowN f r)) : RowsT w t f (cs ++ [.slice A n c]) (rs ++ [r]) := by
  subst hn
  refine ⟨by rw [List.length_append, List.length_append, h.1]; rfl, fun k hk => ?_⟩
  rw [List.length_append] at hk
  have hk : k < rs.length + 1 := hk
  by_cases e : k < rs.length
  · have e2 : (rs ++ [r]).getD k [] = rs.getD k [] := by rw [List.getD_eq_getElem?_getD, List.getD_eq_getElem?_getD, List.getElem?_append_left e]
    rw [e2, List.getElem?_append_left (by rw [h.1]; exact e)]
    exact h.2 k e
  · obtain rfl : k = rs.length := by omega
    have e2 : (rs ++ [r]).getD rs.length [] = r := by rw [List.getD_eq_getElem?_getD, List.getElem?_append_right (Nat.le_refl _), Nat.sub_self]; rfl
    rw [e2]
    exact ⟨A, c, by rw [List.getElem?_append_right (by rw [h.1]; exact Nat.le_refl _), h.1, Nat.sub_self]; rfl, hc, hr⟩
theorem RowsT.nil : RowsT w t f [] [] := ⟨rfl, fun i hi => absurd hi (by simp)⟩
theorem rowsT_one (h : RowsT w t f cs rs) : ∀ u ∈ cs, u.oneCell' = true := fun u hu => by
  obtain ⟨i, hi, rfl⟩ := List.mem_iff_getElem.1 hu
  obtain ⟨A, c, h1, _, _⟩ := h.2 i (by rw [← h.1]; exact hi)
  rw [List.getElem?_eq_getElem hi] at h1
  injection h1 with h1
  rw [h1]; rfl
end
theorem made_nils (n : Nat) : (madeCells (Value.cells (.slice none 0 0)) (n * 1)).toList = List.replicate n (.slice none 0 0) := by
  have hc : Value.cells (.slice none 0 0) = #[.slice none 0 0] := by rfl
  rw [hc, toList_madeCells_one, Nat.mul_one]

/-- A row of the call's own on its way (type e, so many cells a thing), and a variable at block gg (type gt) that stays. -/
structure ORel (w0 : World) (e : TypeId) (size gg : Nat) (gt : TypeId) (G : Array Value) (n : Nat) (xs : List Value) (v : Value) (w : World) : Prop where
  own : w.ownsRow w0.heap.size e size v n xs
  bg : Bk w gg gt G
  b : Bl w0 w
section
variable {w0 w w' w2 : World} {e gt : TypeId} {size gg n : Nat} {G : Array Value} {xs : List Value} {v v2 : Value} {o : Obj}
theorem ORel.bl_ (h : ORel w0 e size gg gt G n xs v w) (hb : Bl w w') : ORel w0 e size gg gt G n xs v w' := ⟨own_bl h.own hb, h.bg.bl hb, h.b.trans hb⟩
theorem ORel.alloc (h : ORel w0 e size gg gt G n xs v w) (o : Obj) : ORel w0 e size gg gt G n xs v (w.alloc o) := h.bl_ ((Bl.refl w).alloc o)
theorem ORel.is {m : Nat} {ys : List Value} (h : ORel w0 e size gg gt G n xs v w) (hm : m = n) (e1 : ys = xs) : ORel w0 e size gg gt G m ys v w := by subst hm e1; exact h
theorem ORel.more {m : Nat} {ys : List Value} (h : ORel w0 e size gg gt G n xs v w) (ho : w2.ownsRow w0.heap.size e size v2 m ys) (hg : (w.alloc o).grownBy w2 v.ownBlock) (hne : e ≠ gt) : ORel w0 e size gg gt G m ys v2 w2 :=
  ⟨ho, (h.bg.alloc o).grown hg fun e2 => h.bg.row h.own hne e2.symm, (h.b.alloc o).grown hg fun k hk => (h.own.lt k hk).1⟩
theorem ORel.keep {g : Nat} {ty : TypeId} {cs : Array Value} (h : ORel w0 e size gg gt G n xs v w) (hk : Bk w g ty cs) (hne : e ≠ ty) (hg : (w.alloc o).grownBy w2 v.ownBlock) : Bk w2 g ty cs :=
  (hk.alloc o).grown hg fun e2 => hk.row h.own hne e2.symm
/-- What a new row's block leaves as it is: all that lies below the call. -/
theorem ORel.rows {t : TypeId} (h : ORel w0 e size gg gt G n xs v w) (hg : (w.alloc o).grownBy w2 v.ownBlock) (hne : e ≠ t) : KeepT t w w2 :=
  ((KeepT.refl t w).alloc o).trans (.grown (h.own.alloc o) hg hne)
end
theorem cells_new (w : World) (cs : Array Value) (t : TypeId) : ∀ j v, cs.toList[j]? = some v → (w.alloc (.cells cs t)).cell? ((⟨w.heap.size, 0, none⟩ : Addr).add j) = some v := by
  intro j v hv
  exact World.news_of_block (cs := cs) (t := t) (fr := (0, 0)) (heap_alloc_new w _) j v hv

/-- A row of the call's own (element type tl) at block g, of slices (element type te) that read as the rows of tbl. -/
def TabT {α : Type} (w : World) (base : Nat) (te tl : TypeId) (f : α → List Value) (g N c : Nat) (tbl : List (List α)) : Prop :=
  ∃ cs, w.ownsRow base tl 1 (.slice (some ⟨g, 0, none⟩) N c) N cs ∧ RowsT w te f cs tbl ∧ tbl.length = N
section
variable {α : Type} {w w' w2 : World} {base : Nat} {te tl : TypeId} {f : α → List Value} {g N c : Nat} {tbl : List (List α)}
theorem TabT.bl (h : TabT w base te tl f g N c tbl) (hb : Bl w w') : TabT w' base te tl f g N c tbl := by
  obtain ⟨cs, h1, h2, h3⟩ := h
  exact ⟨cs, own_bl h1 hb, h2.keep (.of_bl hb), h3⟩
theorem TabT.len (h : TabT w base te tl f g N c tbl) : tbl.length = N := by
  obtain ⟨_, _, _, h3⟩ := h
  exact h3
theorem TabT.read (h : TabT w base te tl f g N c tbl) {m : Nat} (hm : m < N) : ∃ A d, w.cell? ⟨g, m, none⟩ = some (.slice A (tbl.getD m []).length d) ∧ (tbl.getD m []).length ≤ d ∧ RdT w te A (rowN f (tbl.getD m [])) := by
  obtain ⟨cs, h1, h2, h3⟩ := h
  obtain ⟨A, d, h4, h5, h6⟩ := h2.2 m (by omega)
  exact ⟨A, d, (h1.cellAt m (by omega)).trans h4, h5, h6⟩
theorem TabT.free (h : TabT w base te tl f g N c tbl) (j : Nat) : w.frozen? ⟨g, j, none⟩ = false := by
  obtain ⟨cs, h1, _, _⟩ := h
  exact h1.frozenAt j
theorem TabT.glt (h : TabT w base te tl f g N c tbl) : base ≤ g ∧ g < w.heap.size := by
  obtain ⟨cs, h1, _, _⟩ := h
  exact h1.lt g rfl
theorem TabT.put (h : TabT w base te tl f g N c tbl) (hne : tl ≠ te) {m : Nat} {A : Option Addr} {k d : Nat} {r : List α} (hk : k = r.length) (hd : k ≤ d) (hr : RdT w te A (rowN f r)) :
    TabT (w.setCell ⟨g, m, none⟩ (.slice A k d)) base te tl f g N c (tbl.set m r) := by
  obtain ⟨cs, h1, h2, h3⟩ := h
  have hkp := KeepT.put (t := te) (j := m) h1 hne (.slice A k d)
  exact ⟨cs.set m (.slice A k d), (h1.stored m _).1, (h2.keep hkp).set hk hd (hr.keep hkp), by rw [List.length_set]; exact h3⟩
theorem TabT.other {g2 N2 c2 : Nat} {tb2 : List (List α)} (h : TabT w base te tl f g N c tbl) (h2 : TabT w base te tl f g2 N2 c2 tb2) (hg : g ≠ g2) (hne : tl ≠ te) (m : Nat) (u : Value) : TabT (w.setCell ⟨g2, m, none⟩ u) base te tl f g N c tbl := by
  obtain ⟨cs, h1, h2', h3⟩ := h
  obtain ⟨ds, k1, _, _⟩ := h2
  refine ⟨cs, own_fr h1 ((Fr.refl (fun k => k = g2) w).own m u) (fun k hk e => hg ?_), h2'.keep (KeepT.put k1 hne u), h3⟩
  have : g = k := by simpa [Value.ownBlock] using hk
  omega
theorem TabT.made (h : w.ownsRow base tl 1 (.slice (some ⟨g, 0, none⟩) N c) N (madeCells (Value.cells (.slice none 0 0)) (N * 1)).toList) : TabT w base te tl f g N c (List.replicate N []) := by
  rw [made_nils] at h
  exact ⟨_, h, RowsT.nils N, List.length_replicate⟩
theorem TabT.row_bk (h : TabT w base te tl f g N c tbl) {gg : Nat} {t : TypeId} {G : Array Value} (hb : Bk w gg t G) (hne : tl ≠ t) : gg ≠ g := by
  obtain ⟨cs, h1, _, _⟩ := h
  intro e
  exact hb.row h1 hne (by rw [e]; rfl)
end
end Go.Proofs.Ytckckejgocbkkaa
