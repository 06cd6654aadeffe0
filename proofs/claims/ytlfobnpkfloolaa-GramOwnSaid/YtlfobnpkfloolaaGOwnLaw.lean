/- GramOwn: a copy is nobody else's. -/
import Derived.Test.YtlfobnpkfloolaaGBackM
namespace Go.Proofs.Ytlfobnpkfloolaa
open Go.RowKit

/-- What the law makes of a symbol, of a production. -/
def bumpS (s : Gr.Sy) : Gr.Sy := ⟨s.non, s.n + 1⟩
def bumpP (p : Gr.Pr) : Gr.Pr := ⟨p.left + 1, p.right.map bumpS⟩
/-- The first j symbols of a production are turned. -/
def halfS (l : List Gr.Sy) (j : Nat) : List Gr.Sy := (l.take j).map bumpS ++ l.drop j
theorem halfS_len (l : List Gr.Sy) (j : Nat) (h : j ≤ l.length) : (halfS l j).length = l.length := by
  unfold halfS; rw [List.length_append, List.length_map, List.length_take, List.length_drop]; omega
theorem halfS_zero (l : List Gr.Sy) : halfS l 0 = l := by simp [halfS]
theorem halfS_all (l : List Gr.Sy) : halfS l l.length = l.map bumpS := by simp [halfS]
theorem halfS_at {l : List Gr.Sy} {j : Nat} (h : j < l.length) (h' : j < (halfS l j).length) : (halfS l j)[j] = l[j] := by
  unfold halfS
  exact mid_at (ks := (l.take j).map bumpS) (hs := l) (by rw [List.length_map, List.length_take]; omega) h h'
theorem halfS_next {l : List Gr.Sy} {j : Nat} (h : j < l.length) : (halfS l j).set j (bumpS l[j]) = halfS l (j + 1) := by
  unfold halfS
  rw [mid_set (ks := (l.take j).map bumpS) (hs := l) (by rw [List.length_map, List.length_take]; omega) h, List.take_succ_eq_append_getElem h, List.map_append]
  rfl
theorem bump_same (ps : List Gr.Pr) : decide (ps.map bumpP = ps) = decide (ps.length = 0) := by
  rw [decide_eq_decide]
  cases ps with
  | nil => simp
  | cons p ps =>
    refine ⟨fun e => ?_, fun e => by simp at e⟩
    rw [List.map_cons] at e
    injection e with e _
    have : p.left + 1 = p.left := congrArg Gr.Pr.left e
    omega

theorem set_same {α : Type} {l : List α} {i : Nat} {x : α} (h : l[i]? = some x) : l.set i x = l := by
  apply List.ext_getElem?
  intro j
  rw [List.getElem?_set]
  split
  · rename_i e
    subst e
    obtain ⟨hi, _⟩ := List.getElem?_eq_some_iff.1 h
    rw [if_pos hi, h]
  · rfl

section
variable {w : World} {base g len cap : Nat} {hs : List Ph}
/-- The k-th production of one's own. -/
theorem OwnPrs.cell (h : OwnPrs w base (.slice (some ⟨g, 0, none⟩) len cap) hs) {k : Nat} (hk : k < hs.length) :
    w.cell? ⟨g, k * 2, none⟩ = some (.int .i64 hs[k].left) ∧ w.cell? ⟨g, k * 2 + 1, none⟩ = some (.slice hs[k].at_ hs[k].right.length hs[k].cap) ∧ w.frozen? ⟨g, k * 2, none⟩ = false ∧ g < w.heap.size := by
  have h1 := h.1
  have hl : len = hs.length := by obtain ⟨A, c, e, _⟩ := own_form h1; injection e
  subst hl
  have h9 := row2_at (f := fun h : Ph => .int .i64 h.left) (g := fun h => .slice h.at_ h.right.length h.cap) hs k hk
  exact ⟨(h1.cellAt _ (by omega)).trans h9.1, (h1.cellAt _ (by omega)).trans h9.2, h1.frozenAt _, (h1.lt g rfl).2⟩
/-- Its left side is set. -/
theorem OwnPrs.setLeft (h : OwnPrs w base (.slice (some ⟨g, 0, none⟩) len cap) hs) {k : Nat} (hk : k < hs.length) (l : Int) :
    OwnPrs (w.setCell ⟨g, k * 2, none⟩ (.int .i64 l)) base (.slice (some ⟨g, 0, none⟩) len cap) (hs.set k ⟨l, hs[k].right, hs[k].at_, hs[k].cap⟩) := by
  obtain ⟨h1, h2, h3⟩ := h
  have hl : len = hs.length := by obtain ⟨A, c, e, _⟩ := own_form h1; injection e
  subst hl
  have hst := (h1.stored (k * 2) (.int .i64 l)).1
  have e1 : (phRow hs).set (k * 2) (.int .i64 l) = phRow (hs.set k ⟨l, hs[k].right, hs[k].at_, hs[k].cap⟩) := row2_set0 (f := fun h : Ph => Value.int .i64 h.left) (g := fun h => Value.slice h.at_ h.right.length h.cap) hs k ⟨l, hs[k].right, hs[k].at_, hs[k].cap⟩ hk rfl
  rw [e1] at hst
  refine ⟨by rw [List.length_set]; exact hst, fun x hx => ?_, ?_⟩
  · have hx' : ∃ y ∈ hs, x.v = y.v ∧ x.right = y.right := by
      rcases List.mem_or_eq_of_mem_set hx with hx | rfl
      · exact ⟨x, hx, rfl, rfl⟩
      · exact ⟨hs[k], List.getElem_mem hk, rfl, rfl⟩
    obtain ⟨y, hy, e, e2⟩ := hx'
    have hoy := h2 y hy
    unfold Ph.own at hoy ⊢
    rw [e, e2]
    exact own_put_ hoy (fun e => own_apart hoy h1 (by decide) g e rfl) _
  · rw [List.pairwise_iff_getElem] at h3 ⊢
    intro i j hi hj hij
    rw [List.length_set] at hi hj
    have e : ∀ (m : Nat) (hm : m < hs.length) (hm' : m < (hs.set k ⟨l, hs[k].right, hs[k].at_, hs[k].cap⟩).length), (hs.set k ⟨l, hs[k].right, hs[k].at_, hs[k].cap⟩)[m].v = hs[m].v := by
      intro m hm hm'
      rw [List.getElem_set]
      split
      · rename_i he; subst he; rfl
      · rfl
    unfold Ph.apart
    rw [e i hi, e j hj]
    exact h3 i j hi hj hij
/-- A symbol's number is set. -/
theorem OwnPrs.setSym (h : OwnPrs w base (.slice (some ⟨g, 0, none⟩) len cap) hs) {k j b : Nat} (hk : k < hs.length) (hb : hs[k].at_ = some ⟨b, 0, none⟩) (hj : j < hs[k].right.length) (m : Int) :
    OwnPrs (w.setCell ⟨b, j * 2 + 1, none⟩ (.int .i64 m)) base (.slice (some ⟨g, 0, none⟩) len cap) (hs.set k ⟨hs[k].left, hs[k].right.set j ⟨hs[k].right[j].non, m⟩, hs[k].at_, hs[k].cap⟩) := by
  obtain ⟨h1, h2, h3⟩ := h
  have hok := h2 _ (List.getElem_mem hk)
  unfold Ph.own Ph.v at hok
  have e2 : phRow (hs.set k ⟨hs[k].left, hs[k].right.set j ⟨hs[k].right[j].non, m⟩, hs[k].at_, hs[k].cap⟩) = phRow hs := by
    have e := row2_set0 (f := fun h : Ph => Value.int .i64 h.left) (g := fun h => Value.slice h.at_ h.right.length h.cap) hs k ⟨hs[k].left, hs[k].right.set j ⟨hs[k].right[j].non, m⟩, hs[k].at_, hs[k].cap⟩ hk (by simp)
    unfold phRow
    rw [← e]
    have h9 := (row2_at (f := fun h : Ph => Value.int .i64 h.left) (g := fun h => Value.slice h.at_ h.right.length h.cap) hs k hk).1
    exact set_same h9
  refine ⟨?_, fun x hx => ?_, ?_⟩
  · rw [List.length_set, e2]
    exact own_put_ h1 (fun e => own_apart h1 hok (by decide) b e (by rw [hb]; rfl)) _
  · rw [List.mem_iff_getElem] at hx
    obtain ⟨i, hi, rfl⟩ := hx
    rw [List.length_set] at hi
    rw [List.getElem_set]
    split
    · rename_i he
      subst he
      unfold Ph.own Ph.v
      simp only [List.length_set]
      have hok' := hok
      rw [hb] at hok' ⊢
      have hst := (hok'.stored (j * 2 + 1) (.int .i64 m)).1
      have e1 : (syRow hs[k].right).set (j * 2 + 1) (.int .i64 m) = syRow (hs[k].right.set j ⟨hs[k].right[j].non, m⟩) := row2_set1 (f := fun s : Gr.Sy => Value.bool s.non) (g := fun s => Value.int .i64 s.n) hs[k].right j ⟨hs[k].right[j].non, m⟩ hj rfl
      rw [e1] at hst
      exact hst
    · rename_i hne
      have hoi := h2 _ (List.getElem_mem hi)
      unfold Ph.own at hoi ⊢
      refine own_put_ hoi (fun e => ?_) _
      have hbk : hs[k].v.ownBlock = some b := by unfold Ph.v; rw [hb]; rfl
      rcases Nat.lt_or_gt_of_ne hne with hlt | hlt
      · exact List.pairwise_iff_getElem.1 h3 k i hk hi hlt b hbk e
      · exact List.pairwise_iff_getElem.1 h3 i k hi hk hlt b e hbk
  · rw [List.pairwise_iff_getElem] at h3 ⊢
    intro i i' hi hi' hij
    rw [List.length_set] at hi hi'
    have e : ∀ (m' : Nat) (hm : m' < hs.length) (hm' : m' < (hs.set k ⟨hs[k].left, hs[k].right.set j ⟨hs[k].right[j].non, m⟩, hs[k].at_, hs[k].cap⟩).length), (hs.set k ⟨hs[k].left, hs[k].right.set j ⟨hs[k].right[j].non, m⟩, hs[k].at_, hs[k].cap⟩)[m'].v.ownBlock = hs[m'].v.ownBlock := by
      intro m' hm hm'
      rw [List.getElem_set]
      split
      · rename_i he; subst he; unfold Ph.v; simp only; cases hs[k].at_ <;> rfl
      · rfl
    unfold Ph.apart
    rw [e i hi, e i' hi']
    exact h3 i i' hi hi' hij
end

/-- What the law holds while it turns the copy: the copy, both grammars' blocks, and the bytes. -/
def OwS (w : World) (gc : Nat) (cs0 cs1 : Array Value) (v vb : Value) (bl : List Nat) (hs : List Ph) (wr : World) : Prop :=
  OwnPrs wr w.heap.size v hs ∧ Bk wr gc 24 cs1 ∧ Bk wr w.heap.size 24 cs0 ∧ wr.ownsRow w.heap.size 5 1 vb bl.length (bys bl) ∧ Bl w wr
section
variable {w wr : World} {gc g len cap : Nat} {cs0 cs1 : Array Value} {vb : Value} {bl : List Nat} {hs : List Ph}
theorem OwS.put_ {v : Value} {b o : Nat} {e : TypeId} {n sz : Nat} {u x : Value} {xs : List Value} {hs' : List Ph} (h : OwS w gc cs0 cs1 v vb bl hs wr) (ho : wr.ownsRow w.heap.size e sz u n xs) (hu : u.ownBlock = some b) (h1 : e ≠ 24) (h2 : e ≠ 5)
    (hn : OwnPrs (wr.setCell ⟨b, o, none⟩ x) w.heap.size v hs') : OwS w gc cs0 cs1 v vb bl hs' (wr.setCell ⟨b, o, none⟩ x) := by
  obtain ⟨_, h4, h5, h6, h7⟩ := h
  refine ⟨hn, h4.far (p := ⟨b, o, none⟩) (fun e => h4.row ho h1 (by rw [hu, e])) _, h5.far (p := ⟨b, o, none⟩) (fun e => h5.row ho h1 (by rw [hu, e])) _, own_put_ h6 (own_apart ho h6 h2 b hu) _, ?_⟩
  exact h7.fr (S := fun i => i = b) ((Fr.refl _ wr).own o x) fun i hi e => by have := (ho.lt b hu).1; omega
theorem OwS.setLeft (h : OwS w gc cs0 cs1 (.slice (some ⟨g, 0, none⟩) len cap) vb bl hs wr) {k : Nat} (hk : k < hs.length) (l : Int) :
    OwS w gc cs0 cs1 (.slice (some ⟨g, 0, none⟩) len cap) vb bl (hs.set k ⟨l, hs[k].right, hs[k].at_, hs[k].cap⟩) (wr.setCell ⟨g, k * 2, none⟩ (.int .i64 l)) :=
  h.put_ h.1.1 rfl (by decide) (by decide) (h.1.setLeft hk l)
theorem OwS.setSym (h : OwS w gc cs0 cs1 (.slice (some ⟨g, 0, none⟩) len cap) vb bl hs wr) {k j b : Nat} (hk : k < hs.length) (hb : hs[k].at_ = some ⟨b, 0, none⟩) (hj : j < hs[k].right.length) (m : Int) :
    OwS w gc cs0 cs1 (.slice (some ⟨g, 0, none⟩) len cap) vb bl (hs.set k ⟨hs[k].left, hs[k].right.set j ⟨hs[k].right[j].non, m⟩, hs[k].at_, hs[k].cap⟩) (wr.setCell ⟨b, j * 2 + 1, none⟩ (.int .i64 m)) :=
  h.put_ (h.1.2.1 _ (List.getElem_mem hk)) (by unfold Ph.v; rw [hb]; rfl) (by decide) (by decide) (h.1.setSym hk hb hj m)
theorem OwS.b (h : OwS w gc cs0 cs1 (.slice (some ⟨g, 0, none⟩) len cap) vb bl hs wr) : Bl w wr := h.2.2.2.2
theorem OwS.sym (h : OwS w gc cs0 cs1 (.slice (some ⟨g, 0, none⟩) len cap) vb bl hs wr) {k j : Nat} (hk : k < hs.length) (hj : j < hs[k].right.length) :
    ∃ b, hs[k].at_ = some ⟨b, 0, none⟩ ∧ wr.cell? ⟨b, j * 2 + 1, none⟩ = some (.int .i64 hs[k].right[j].n) ∧ wr.frozen? ⟨b, j * 2 + 1, none⟩ = false ∧ b < wr.heap.size := by
  have ho := h.1.2.1 _ (List.getElem_mem hk)
  unfold Ph.own Ph.v at ho
  rcases ho.2 with ⟨_, h0⟩ | ⟨b, cap', cur, hv, _⟩
  · omega
  · have hb : hs[k].at_ = some ⟨b, 0, none⟩ := by injection hv
    rw [hb] at ho
    have h9 := row2_at (f := fun s : Gr.Sy => Value.bool s.non) (g := fun s => Value.int .i64 s.n) hs[k].right j hj
    exact ⟨b, hb, (ho.cellAt _ (by omega)).trans h9.2, ho.frozenAt _, (ho.lt b rfl).2⟩
end
/-- The first k productions are turned. -/
def mixP (ps : List Gr.Pr) (k : Nat) : List Gr.Pr := (ps.take k).map bumpP ++ ps.drop k
theorem mixP_zero (ps : List Gr.Pr) : mixP ps 0 = ps := by simp [mixP]
theorem mixP_all (ps : List Gr.Pr) : mixP ps ps.length = ps.map bumpP := by simp [mixP]
theorem mixP_next {ps : List Gr.Pr} {k : Nat} (h : k < ps.length) : (mixP ps k).set k (bumpP ps[k]) = mixP ps (k + 1) := by
  unfold mixP
  rw [mid_set (ks := (ps.take k).map bumpP) (hs := ps) (by rw [List.length_map, List.length_take]; omega) h, List.take_succ_eq_append_getElem h, List.map_append]
  rfl
theorem mixP_len {ps : List Gr.Pr} {k : Nat} (h : k ≤ ps.length) : (mixP ps k).length = ps.length := by
  unfold mixP; rw [List.length_append, List.length_map, List.length_take, List.length_drop]; omega
theorem hs_at {hs : List Ph} {ps : List Gr.Pr} {k : Nat} (h : hs.map Ph.pr = mixP ps k) (hk : k < ps.length) : ∃ hk' : k < hs.length, hs[k].left = ps[k].left ∧ hs[k].right = ps[k].right := by
  have hl : hs.length = ps.length := by have := congrArg List.length h; rw [List.length_map, mixP_len (by omega)] at this; exact this
  refine ⟨by omega, ?_⟩
  have e : (hs.map Ph.pr)[k]? = (mixP ps k)[k]? := by rw [h]
  have e2 : (mixP ps k)[k]? = some ps[k] := by
    rw [List.getElem?_eq_getElem (by rw [mixP_len (by omega)]; exact hk)]
    unfold mixP
    rw [mid_at (ks := (ps.take k).map bumpP) (hs := ps) (by rw [List.length_map, List.length_take]; omega) hk]
  rw [e2, List.getElem?_map, List.getElem?_eq_getElem (by omega)] at e
  injection e with e
  exact ⟨congrArg Gr.Pr.left e, congrArg Gr.Pr.right e⟩
end Go.Proofs.Ytlfobnpkfloolaa
