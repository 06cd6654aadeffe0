/- Tables: rows of rows of bools in memory; and how a row of places goes on by tables. -/
import Derived.Test.YtckckejgocbkkaaRows
import Derived.Test.YtckckejgocbkkaaWMem
import Derived.Test.YtckckejgocbkkaaPlainS
import Derived.OwnWalk
namespace Go.Proofs.Ytckckejgocbkkaa
open Go.RowKit

/-- The slice at A reads as the cells xs, in a block of which P is so. -/
def RdP (w : World) (P : Nat → Prop) (A : Option Addr) (xs : List Value) : Prop :=
  0 < xs.length → ∃ b off, A = some ⟨b, off, none⟩ ∧ P b ∧ ∀ j u, xs[j]? = some u → w.cell? ⟨b, off + j, none⟩ = some u
section
variable {w w' : World} {P Q : Nat → Prop} {A : Option Addr} {xs : List Value} {B : Nat}
theorem RdP.keep (h : RdP w P A xs) (hk : ∀ b, P b → w'.heap[b]? = w.heap[b]?) : RdP w' P A xs := fun hn => by
  obtain ⟨b, off, e, hb, hc⟩ := h hn
  exact ⟨b, off, e, hb, fun j u hu => (World.cell?_of_block (hk b hb)).trans (hc j u hu)⟩
theorem RdP.mono (h : RdP w P A xs) (hP : ∀ b, P b → Q b) : RdP w Q A xs := fun hn => by
  obtain ⟨b, off, e, hb, hc⟩ := h hn
  exact ⟨b, off, e, hP b hb, hc⟩
theorem RdP.nil : RdP w P A [] := fun h => absurd h (by simp)
theorem RdP.cell (h : RdP w P A xs) {j : Nat} (hj : j < xs.length) : ∃ b off, A = some ⟨b, off, none⟩ ∧ P b ∧ w.cell? ⟨b, off + j, none⟩ = some xs[j] := by
  obtain ⟨b, off, e, hb, hc⟩ := h (by omega)
  exact ⟨b, off, e, hb, hc j _ (List.getElem?_eq_getElem hj)⟩
theorem RdP.of_own {base e n c : Nat} {g : Nat} (h : w.ownsRow base e 1 (.slice (some ⟨g, 0, none⟩) n c) n xs) (hP : ∀ b, base ≤ b → b < w.heap.size → P b) : RdP w P (some ⟨g, 0, none⟩) xs := by
  intro _
  have hlt := h.lt g rfl
  refine ⟨g, 0, rfl, hP g hlt.1 hlt.2, fun j u hu => ?_⟩
  have := h.cells (g := g) rfl j u hu
  unfold Addr.add at this
  split at this
  · rename_i hj; subst hj; simpa using this
  · simpa using this
end

/-- Bools as cells. -/
def bls (m : Nat) (f : Nat → Bool) : List Value := (List.range m).map fun b => Value.bool (f b)
theorem bls_len (m : Nat) (f : Nat → Bool) : (bls m f).length = m := by simp [bls]
theorem bls_at {m b : Nat} (f : Nat → Bool) (h : b < m) : (bls m f)[b]? = some (.bool (f b)) := by simp [bls, h]
theorem bls_get {m b : Nat} (f : Nat → Bool) (h : b < (bls m f).length) : (bls m f)[b] = .bool (f b) := by simp [bls]
theorem bls_congr {m : Nat} {f g : Nat → Bool} (h : ∀ b, b < m → f b = g b) : bls m f = bls m g := by
  apply List.ext_getElem?
  intro j
  rcases Nat.lt_or_ge j m with hj | hj
  · rw [bls_at f hj, bls_at g hj, h j hj]
  · rw [List.getElem?_eq_none (by rw [bls_len]; exact hj), List.getElem?_eq_none (by rw [bls_len]; exact hj)]
def upd (f : Nat → Bool) (b : Nat) (x : Bool) : Nat → Bool := fun i => if i = b then x else f i
theorem bls_set (m : Nat) (f : Nat → Bool) (b : Nat) (x : Bool) : (bls m f).set b (.bool x) = bls m (upd f b x) := by
  apply List.ext_getElem?
  intro j
  rw [List.getElem?_set, bls_len]
  unfold upd
  by_cases e : b = j
  · subst e
    rw [if_pos rfl]
    by_cases hb : b < m
    · rw [if_pos hb, bls_at _ hb, if_pos rfl]
    · rw [if_neg hb, List.getElem?_eq_none (by rw [bls_len]; omega)]
  · rw [if_neg e]
    rcases Nat.lt_or_ge j m with hj | hj
    · rw [bls_at _ hj, bls_at _ hj, if_neg (fun h => e h.symm)]
    · rw [List.getElem?_eq_none (by rw [bls_len]; exact hj), List.getElem?_eq_none (by rw [bls_len]; exact hj)]
theorem bls_false (m : Nat) : bls m (fun _ => false) = (madeCells (Value.cells (.bool false)) (m * 1)).toList := by
  have hc : Value.cells (.bool false) = #[.bool false] := by rfl
  rw [hc, toList_madeCells_one, Nat.mul_one]
  apply List.ext_getElem?
  intro j
  rcases Nat.lt_or_ge j m with hj | hj
  · rw [bls_at _ hj]; simp [hj]
  · rw [List.getElem?_eq_none (by rw [bls_len]; exact hj)]; simp [hj]
theorem bool_info : (Try.prog.info? 4).map (fun i => (i.zero, i.size, i.bytes)) = some (some (.bool false), 1, 1) := by kernel_rfl

/-- A value that is a table: m rows of m bools. -/
def Row2 (w : World) (P : Nat → Prop) (v : Value) (m : Nat) (f : Nat → Nat → Bool) : Prop :=
  ∃ A c cs, v = .slice A m c ∧ cs.length = m ∧ RdP w P A cs ∧ ∀ a (h : a < cs.length), ∃ Aa ca, cs[a] = .slice Aa m ca ∧ RdP w P Aa (bls m (f a))
/-- A slice of tables. -/
def Row3 (w : World) (P : Nat → Prop) (A : Option Addr) (m : Nat) (fs : List (Nat → Nat → Bool)) : Prop :=
  ∃ vs, vs.length = fs.length ∧ RdP w P A vs ∧ ∀ i (h : i < vs.length) (h' : i < fs.length), Row2 w P vs[i] m fs[i]
section
variable {w w' : World} {P Q : Nat → Prop} {v : Value} {m : Nat} {f : Nat → Nat → Bool} {A : Option Addr} {fs : List (Nat → Nat → Bool)}
theorem Row2.keep (h : Row2 w P v m f) (hk : ∀ b, P b → w'.heap[b]? = w.heap[b]?) : Row2 w' P v m f := by
  obtain ⟨A, c, cs, e, hl, hr, hx⟩ := h
  refine ⟨A, c, cs, e, hl, hr.keep hk, fun a ha => ?_⟩
  obtain ⟨Aa, ca, e1, h1⟩ := hx a ha
  exact ⟨Aa, ca, e1, h1.keep hk⟩
theorem Row2.mono (h : Row2 w P v m f) (hP : ∀ b, P b → Q b) : Row2 w Q v m f := by
  obtain ⟨A, c, cs, e, hl, hr, hx⟩ := h
  refine ⟨A, c, cs, e, hl, hr.mono hP, fun a ha => ?_⟩
  obtain ⟨Aa, ca, e1, h1⟩ := hx a ha
  exact ⟨Aa, ca, e1, h1.mono hP⟩
theorem Row2.read (h : Row2 w P v m f) {a b : Nat} (ha : a < m) (hb : b < m) : ∃ b1 o1 c1 b2 o2 c2, v = .slice (some ⟨b1, o1, none⟩) m c1 ∧ P b1 ∧
    w.cell? ⟨b1, o1 + a, none⟩ = some (.slice (some ⟨b2, o2, none⟩) m c2) ∧ P b2 ∧ w.cell? ⟨b2, o2 + b, none⟩ = some (.bool (f a b)) := by
  obtain ⟨A, c, cs, e, hl, hr, hx⟩ := h
  obtain ⟨b1, o1, e1, p1, h1⟩ := hr.cell (j := a) (by omega)
  obtain ⟨Aa, ca, e2, h2⟩ := hx a (by omega)
  obtain ⟨b2, o2, e3, p2, h3⟩ := h2.cell (j := b) (by rw [bls_len]; exact hb)
  rw [bls_get] at h3
  subst e1 e3
  exact ⟨b1, o1, c, b2, o2, ca, e, p1, by rw [h1, e2], p2, h3⟩
theorem Row3.keep (h : Row3 w P A m fs) (hk : ∀ b, P b → w'.heap[b]? = w.heap[b]?) : Row3 w' P A m fs := by
  obtain ⟨vs, hl, hr, hx⟩ := h
  exact ⟨vs, hl, hr.keep hk, fun i h1 h2 => (hx i h1 h2).keep hk⟩
theorem Row3.read (h : Row3 w P A m fs) {i a b : Nat} (hi : i < fs.length) (ha : a < m) (hb : b < m) : ∃ b0 o0 b1 o1 c1 b2 o2 c2, A = some ⟨b0, o0, none⟩ ∧ P b0 ∧
    w.cell? ⟨b0, o0 + i, none⟩ = some (.slice (some ⟨b1, o1, none⟩) m c1) ∧ P b1 ∧ w.cell? ⟨b1, o1 + a, none⟩ = some (.slice (some ⟨b2, o2, none⟩) m c2) ∧ P b2 ∧ w.cell? ⟨b2, o2 + b, none⟩ = some (.bool (fs[i] a b)) := by
  obtain ⟨vs, hl, hr, hx⟩ := h
  obtain ⟨b0, o0, e0, p0, h0⟩ := hr.cell (j := i) (by omega)
  obtain ⟨b1, o1, c1, b2, o2, c2, e1, p1, h1, p2, h2⟩ := (hx i (by omega) hi).read ha hb
  exact ⟨b0, o0, b1, o1, c1, b2, o2, c2, e0, p0, by rw [h0, e1], p1, h1, p2, h2⟩
end

/-- How a row of places goes on by a table; by tables, one behind the other. -/
def stepF (f : Nat → Nat → Bool) (at_ : Nat → Bool) (b : Nat) : Bool := (List.range (b + 1)).any fun a => at_ a && f a b
def walkF : List (Nat → Nat → Bool) → (Nat → Bool) → Nat → Bool
  | [], a => a
  | f :: fs, a => walkF fs (stepF f a)
theorem walkF_snoc (f : Nat → Nat → Bool) : ∀ (fs : List (Nat → Nat → Bool)) (at_ : Nat → Bool), walkF (fs ++ [f]) at_ = stepF f (walkF fs at_)
  | [], _ => rfl
  | _ :: fs, _ => walkF_snoc f fs _
theorem walkF_succ {fs : List (Nat → Nat → Bool)} {k : Nat} (h : k < fs.length) (at_ : Nat → Bool) : walkF (fs.take (k + 1)) at_ = stepF fs[k] (walkF (fs.take k) at_) := by
  rw [List.take_succ_eq_append_getElem h, walkF_snoc]
theorem walkF_map (T : Cf.Tb) (w : List Int) : ∀ (l : List Gr.Sy) (at_ : Nat → Bool), walkF (l.map (Cf.sym T w)) at_ = Cf.walk T w l at_
  | [], _ => rfl
  | _ :: l, _ => walkF_map T w l _
/-- The step, as far as the places below k go; and within place k, as far as those below j. -/
def stepTo (f : Nat → Nat → Bool) (at_ : Nat → Bool) (k b : Nat) : Bool := (List.range k).any fun a => decide (a ≤ b) && (at_ a && f a b)
def inTo (f : Nat → Nat → Bool) (at_ : Nat → Bool) (k j b : Nat) : Bool := stepTo f at_ k b || (decide (k ≤ b ∧ b < j) && f k b)
section
variable (f : Nat → Nat → Bool) (at_ : Nat → Bool)
theorem stepTo_zero : stepTo f at_ 0 = fun _ => false := rfl
theorem stepTo_succ (k b : Nat) : stepTo f at_ (k + 1) b = (stepTo f at_ k b || (decide (k ≤ b) && (at_ k && f k b))) := by
  unfold stepTo
  rw [List.range_succ, List.any_append, List.any_cons, List.any_nil, Bool.or_false]
theorem stepTo_skip {k : Nat} (h : at_ k = false) : stepTo f at_ (k + 1) = stepTo f at_ k := by
  funext b
  rw [stepTo_succ, h]
  simp
theorem stepTo_end {m b : Nat} (h : b < m) : stepTo f at_ m b = stepF f at_ b := by
  unfold stepTo stepF
  rw [Bool.eq_iff_iff, List.any_eq_true, List.any_eq_true]
  constructor
  · rintro ⟨a, ha, hx⟩
    rw [Bool.and_eq_true, decide_eq_true_eq] at hx
    exact ⟨a, List.mem_range.2 (by omega), hx.2⟩
  · rintro ⟨a, ha, hx⟩
    have := List.mem_range.1 ha
    exact ⟨a, List.mem_range.2 (by omega), by rw [Bool.and_eq_true, decide_eq_true_eq]; exact ⟨by omega, hx⟩⟩
theorem inTo_start (k : Nat) : inTo f at_ k k = stepTo f at_ k := by
  funext b
  unfold inTo
  rw [decide_eq_false (by omega)]
  simp
theorem inTo_end {k m b : Nat} (h : at_ k = true) (hb : b < m) : inTo f at_ k m b = stepTo f at_ (k + 1) b := by
  unfold inTo
  rw [stepTo_succ, h, Bool.true_and]
  congr 2
  apply decide_eq_decide.2
  omega
theorem inTo_put {k j : Nat} (hk : k ≤ j) (h : f k j = true) : inTo f at_ k (j + 1) = upd (inTo f at_ k j) j true := by
  funext b
  unfold upd
  split
  · rename_i e
    subst e
    unfold inTo
    rw [decide_eq_true ⟨hk, Nat.lt_succ_self b⟩, h]
    simp
  · rename_i e
    unfold inTo
    congr 2
    apply decide_eq_decide.2
    omega
theorem inTo_skip {k j : Nat} (h : f k j = false) : inTo f at_ k (j + 1) = inTo f at_ k j := by
  funext b
  unfold inTo
  by_cases e : b = j
  · subst e; rw [h]; simp
  · congr 2
    apply decide_eq_decide.2
    omega
end
end Go.Proofs.Ytckckejgocbkkaa
