/- Grammars: how they lie in memory; whether one may be, as bools. -/
import Derived.Test.YtckckejgocbkkaaRows
import Derived.Test.YtckckejgocbkkaaWMem
import Derived.Test.YtckckejgocbkkaaPlainS
namespace Go.Proofs.Ytckckejgocbkkaa
open Go.RowKit

/-- Things of two cells each, one behind the other. -/
def row2 {α : Type} (f g : α → Value) (l : List α) : List Value := l.flatMap fun x => [f x, g x]
section
variable {α : Type} {f g : α → Value}
theorem row2_cons (x : α) (l : List α) : row2 f g (x :: l) = f x :: g x :: row2 f g l := rfl
theorem row2_append (a b : List α) : row2 f g (a ++ b) = row2 f g a ++ row2 f g b := by simp [row2]
theorem row2_len (l : List α) : (row2 f g l).length = l.length * 2 := by
  induction l with
  | nil => rfl
  | cons x l ih => rw [row2_cons, List.length_cons, List.length_cons, ih, List.length_cons]; omega
theorem row2_at : ∀ (l : List α) (i : Nat) (h : i < l.length), (row2 f g l)[i * 2]? = some (f l[i]) ∧ (row2 f g l)[i * 2 + 1]? = some (g l[i])
  | [], _, h => by simp at h
  | x :: l, 0, _ => ⟨rfl, rfl⟩
  | x :: l, i + 1, h => by
    have ih := row2_at l i (by simpa using h)
    rw [row2_cons, show (i + 1) * 2 = i * 2 + 1 + 1 by omega]
    exact ih
theorem row2_one (l : List α) (hf : ∀ x, (f x).oneCell' = true) (hg : ∀ x, (g x).oneCell' = true) : ∀ u ∈ row2 f g l, u.oneCell' = true := by
  intro u hu
  obtain ⟨x, _, hx⟩ := List.mem_flatMap.1 hu
  simp only [List.mem_cons, List.not_mem_nil, or_false] at hx
  rcases hx with rfl | rfl
  · exact hf x
  · exact hg x
theorem Rd.two {w : World} {B : Nat} {A : Option Addr} {l : List α} (h : Rd w B A (row2 f g l)) {i : Nat} (hi : i < l.length) :
    ∃ b off, A = some ⟨b, off, none⟩ ∧ b < B ∧ w.cell? ⟨b, off + i * 2, none⟩ = some (f l[i]) ∧ w.cell? ⟨b, off + i * 2 + 1, none⟩ = some (g l[i]) := by
  obtain ⟨b, off, e, hb, hc⟩ := h (by rw [row2_len]; omega)
  have h2 := row2_at (f := f) (g := g) l i hi
  exact ⟨b, off, e, hb, hc _ _ h2.1, by rw [Nat.add_assoc]; exact hc _ _ h2.2⟩
end

/-- Symbols as cells. -/
def syRow : List Gr.Sy → List Value := row2 (fun s => .bool s.non) (fun s => .int .i64 s.n)
theorem syRow_len (l : List Gr.Sy) : (syRow l).length = l.length * 2 := row2_len l
theorem syRow_append (a b : List Gr.Sy) : syRow (a ++ b) = syRow a ++ syRow b := row2_append a b
theorem syRow_snoc (a : List Gr.Sy) (s : Gr.Sy) : syRow (a ++ [s]) = syRow a ++ [.bool s.non, .int .i64 s.n] := row2_append a [s]
theorem syRow_one (l : List Gr.Sy) : ∀ u ∈ syRow l, u.oneCell' = true := row2_one l (fun _ => rfl) (fun _ => rfl)
theorem Rd.sym {w : World} {B : Nat} {A : Option Addr} {l : List Gr.Sy} (h : Rd w B A (syRow l)) {i : Nat} (hi : i < l.length) :
    ∃ b off, A = some ⟨b, off, none⟩ ∧ b < B ∧ w.cell? ⟨b, off + i * 2, none⟩ = some (.bool l[i].non) ∧ w.cell? ⟨b, off + i * 2 + 1, none⟩ = some (.int .i64 l[i].n) := Rd.two h hi

/-- A production, and where its symbols lie. -/
structure Ph where
  left : Int
  right : List Gr.Sy
  at_ : Option Addr
  cap : Nat
def Ph.pr (h : Ph) : Gr.Pr := ⟨h.left, h.right⟩
/-- Productions as cells. -/
def phRow : List Ph → List Value := row2 (fun h => .int .i64 h.left) (fun h => .slice h.at_ h.right.length h.cap)
theorem phRow_len (l : List Ph) : (phRow l).length = l.length * 2 := row2_len l
theorem phRow_snoc (a : List Ph) (h : Ph) : phRow (a ++ [h]) = phRow a ++ [.int .i64 h.left, .slice h.at_ h.right.length h.cap] := row2_append a [h]
theorem phRow_one (l : List Ph) : ∀ u ∈ phRow l, u.oneCell' = true := row2_one l (fun _ => rfl) (fun _ => rfl)
/-- The slice at A reads as these productions, all below block B. -/
def Prs (w : World) (B : Nat) (A : Option Addr) (ps : List Gr.Pr) : Prop :=
  ∃ hs : List Ph, ps = hs.map Ph.pr ∧ Rd w B A (phRow hs) ∧ ∀ h ∈ hs, Rd w B h.at_ (syRow h.right)

section
variable {w w' : World} {B B' : Nat} {A : Option Addr} {ps : List Gr.Pr}
theorem Prs.nil : Prs w B A [] := ⟨[], rfl, Rd.nil, by simp⟩
theorem Prs.keep (h : Prs w B A ps) (hk : ∀ A xs, Rd w B A xs → Rd w' B' A xs) : Prs w' B' A ps := by
  obtain ⟨hs, e, h1, h2⟩ := h
  exact ⟨hs, e, hk _ _ h1, fun x hx => hk _ _ (h2 x hx)⟩
theorem Prs.bl (h : Prs w B A ps) (hB : B ≤ w.heap.size) (hb : Bl w w') : Prs w' B A ps := h.keep fun _ _ h => h.bl hB hb
theorem Prs.below (h : Prs w B A ps) (hb : Below B w w') : Prs w' B A ps := h.keep fun _ _ h => h.below hb
theorem Prs.more (h : Prs w B A ps) (hB : B ≤ B') : Prs w B' A ps := h.keep fun _ _ h => h.more hB
theorem Prs.alloc (h : Prs w B A ps) (hB : B ≤ w.heap.size) (o : Obj) : Prs (w.alloc o) B A ps := h.keep fun _ _ h => h.alloc hB o
theorem Prs.drewN (h : Prs w B A ps) (n : Nat) : Prs (w.drewN n) B A ps := h
theorem Prs.at_ (h : Prs w B A ps) {i : Nat} (hi : i < ps.length) : ∃ b off Ax c, A = some ⟨b, off, none⟩ ∧ b < B ∧ Rd w B Ax (syRow ps[i].right) ∧
    w.cell? ⟨b, off + i * 2, none⟩ = some (.int .i64 ps[i].left) ∧ w.cell? ⟨b, off + i * 2 + 1, none⟩ = some (.slice Ax ps[i].right.length c) := by
  obtain ⟨hs, rfl, h1, h2⟩ := h
  have hi' : i < hs.length := by simpa using hi
  obtain ⟨b, off, e, hb, c0, c1⟩ := Rd.two h1 hi'
  refine ⟨b, off, hs[i].at_, hs[i].cap, e, hb, ?_, ?_, ?_⟩
  · have := h2 _ (List.getElem_mem hi')
    simpa [Ph.pr] using this
  · simpa [Ph.pr] using c0
  · simpa [Ph.pr] using c1
end

/-- May a number, a symbol, a production, a grammar be? -/
def belowB (n m : Int) : Bool := decide (0 ≤ n ∧ n < m)
def okSyB (t n : Int) (s : Gr.Sy) : Bool := belowB s.n (if s.non then n else t)
def okPrB (t n : Int) (p : Gr.Pr) : Bool := decide (0 ≤ p.left ∧ p.left < n ∧ p.right.length ≤ 8) && p.right.all (okSyB t n)
def okB (g : Gr.Gm) : Bool := decide (0 ≤ g.terms ∧ g.terms ≤ 16 ∧ 1 ≤ g.nons ∧ g.nons ≤ 24 ∧ 0 ≤ g.start ∧ g.start < g.nons ∧ g.prods.length ≤ 60) && g.prods.all (okPrB g.terms g.nons)
theorem belowB_iff (n m : Int) : belowB n m = true ↔ 0 ≤ n ∧ n < m := by simp [belowB]
theorem belowB_no {n m : Int} (h : n < 0 ∨ m ≤ n) : belowB n m = false := by
  rw [Bool.eq_false_iff]; intro e; have := (belowB_iff n m).1 e; omega
theorem okSyB_iff (g : Gr.Gm) (s : Gr.Sy) : okSyB g.terms g.nons s = true ↔ Gr.okSy g s := by
  unfold okSyB Gr.okSy
  rw [belowB_iff]
  cases s.non <;> simp
theorem okPrB_iff (g : Gr.Gm) (p : Gr.Pr) : okPrB g.terms g.nons p = true ↔ Gr.okPr g p := by
  unfold okPrB Gr.okPr
  simp only [Bool.and_eq_true, decide_eq_true_eq, List.all_eq_true, okSyB_iff, and_assoc]
theorem okB_iff (g : Gr.Gm) : okB g = true ↔ Gr.Ok g := by
  unfold okB Gr.Ok
  simp only [Bool.and_eq_true, decide_eq_true_eq, List.all_eq_true, okPrB_iff, and_assoc]
section
variable {t n s : Int} {ps : List Gr.Pr}
theorem okB_no (h : t < 0 ∨ 16 < t ∨ n < 1 ∨ 24 < n ∨ s < 0 ∨ n ≤ s ∨ 60 < ps.length) : okB ⟨t, n, s, ps⟩ = false := by
  rw [Bool.eq_false_iff]
  intro e
  obtain ⟨h1, h2, h3, h4, h5, h6, h7, _⟩ := (okB_iff _).1 e
  simp only at h1 h2 h3 h4 h5 h6 h7
  omega
theorem okB_one {k : Nat} (hk : k < ps.length) (h : okPrB t n ps[k] = false) : okB ⟨t, n, s, ps⟩ = false := by
  rw [Bool.eq_false_iff]
  intro e
  unfold okB at e
  simp only [Bool.and_eq_true, List.all_eq_true] at e
  have := e.2 _ (List.getElem_mem hk)
  rw [h] at this; cases this
theorem okB_all (h1 : 0 ≤ t) (h2 : t ≤ 16) (h3 : 1 ≤ n) (h4 : n ≤ 24) (h5 : 0 ≤ s) (h6 : s < n) (h7 : ps.length ≤ 60) (h : ∀ p ∈ ps, okPrB t n p = true) : okB ⟨t, n, s, ps⟩ = true := by
  unfold okB
  simp only [Bool.and_eq_true, decide_eq_true_eq, List.all_eq_true]
  exact ⟨⟨h1, h2, h3, h4, h5, h6, h7⟩, h⟩
theorem okPrB_no {l : Int} {ss : List Gr.Sy} (h : l < 0 ∨ n ≤ l ∨ 8 < ss.length) : okPrB t n ⟨l, ss⟩ = false := by
  unfold okPrB
  rw [decide_eq_false (by simp only; omega)]; rfl
theorem okPrB_one {l : Int} {ss : List Gr.Sy} {k : Nat} (hk : k < ss.length) (h : okSyB t n ss[k] = false) : okPrB t n ⟨l, ss⟩ = false := by
  rw [Bool.eq_false_iff]
  intro e
  unfold okPrB at e
  simp only [Bool.and_eq_true, List.all_eq_true] at e
  have := e.2 _ (List.getElem_mem hk)
  rw [h] at this; cases this
theorem okPrB_all {l : Int} {ss : List Gr.Sy} (h1 : 0 ≤ l) (h2 : l < n) (h3 : ss.length ≤ 8) (h : ∀ s ∈ ss, okSyB t n s = true) : okPrB t n ⟨l, ss⟩ = true := by
  unfold okPrB
  simp only [Bool.and_eq_true, decide_eq_true_eq, List.all_eq_true]
  exact ⟨⟨h1, h2, h3⟩, h⟩
end
/-- One more of which all is so. -/
theorem all_snoc {α : Type} {P : α → Prop} {l : List α} {k : Nat} (h : k < l.length) (ha : ∀ x ∈ l.take k, P x) (hx : P l[k]) : ∀ x ∈ l.take (k + 1), P x := by
  intro x hm
  rw [List.take_succ_eq_append_getElem h] at hm
  rcases List.mem_append.1 hm with h1 | h1
  · exact ha x h1
  · simp at h1; rw [h1]; exact hx
end Go.Proofs.Ytckckejgocbkkaa
