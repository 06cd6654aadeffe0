/- Plain facts on derivations, and on the least and the greatest of a word's. No program is named here. -/
import Derived.Test.YtpblamiiggglaaaPlainS
namespace Go.Proofs.Ytpblamiiggglaaa.Dv
open Gr (Sy Pr Gm okSy okPr Ok)
open Cf (Cm)

/-- Productions that turn a row of symbols into a word, the leftmost nonterminal first. -/
inductive Dr (ps : List Pr) : List Nat → List Sy → List Int → Prop
  | nil : Dr ps [] [] []
  | tok {l : List Nat} {s : Sy} {row : List Sy} {w : List Int} : s.non = false → Dr ps l row w → Dr ps l (s :: row) (s.n :: w)
  | non {l : List Nat} {s : Sy} {row : List Sy} {w : List Int} {i : Nat} {p : Pr} : s.non = true → ps[i]? = some p → p.left = s.n → Dr ps l (p.right ++ row) w → Dr ps (i :: l) (s :: row) w

theorem Dr.nil_inv {ps : List Pr} {l : List Nat} {w : List Int} (h : Dr ps l [] w) : l = [] ∧ w = [] := by cases h; exact ⟨rfl, rfl⟩
theorem Dr.tok_inv {ps : List Pr} {l : List Nat} {s : Sy} {row : List Sy} {w : List Int} (h : Dr ps l (s :: row) w) (hs : s.non = false) : ∃ v, w = s.n :: v ∧ Dr ps l row v := by
  cases h with
  | tok _ h => exact ⟨_, rfl, h⟩
  | non h1 => rw [hs] at h1; exact absurd h1 (by decide)
theorem Dr.non_inv {ps : List Pr} {l : List Nat} {s : Sy} {row : List Sy} {w : List Int} (h : Dr ps l (s :: row) w) (hs : s.non = true) : ∃ i m p, l = i :: m ∧ ps[i]? = some p ∧ p.left = s.n ∧ Dr ps m (p.right ++ row) w := by
  cases h with
  | tok h1 => rw [hs] at h1; exact absurd h1 (by decide)
  | non _ hi hl h => exact ⟨_, _, _, rfl, hi, hl, h⟩
theorem Dr.append {ps : List Pr} {l : List Nat} {r : List Sy} {u : List Int} (h : Dr ps l r u) {m : List Nat} {q : List Sy} {v : List Int} (hm : Dr ps m q v) : Dr ps (l ++ m) (r ++ q) (u ++ v) := by
  induction h with
  | nil => exact hm
  | tok hs _ ih => exact .tok hs ih
  | @non l s row w i p hs hi hl _ ih =>
    have ih : Dr ps (l ++ m) (p.right ++ row ++ q) (w ++ v) := ih
    rw [List.append_assoc] at ih
    exact .non hs hi hl ih
theorem Dr.split {ps : List Pr} {l : List Nat} {r : List Sy} {w : List Int} (h : Dr ps l r w) : ∀ {r1 r2 : List Sy}, r = r1 ++ r2 → ∃ l1 l2 u v, l = l1 ++ l2 ∧ w = u ++ v ∧ Dr ps l1 r1 u ∧ Dr ps l2 r2 v := by
  induction h with
  | nil =>
    intro r1 r2 e
    obtain ⟨rfl, rfl⟩ := List.append_eq_nil_iff.mp e.symm
    exact ⟨[], [], [], [], rfl, rfl, .nil, .nil⟩
  | @tok l s row w hs h ih =>
    intro r1 r2 e
    cases r1 with
    | nil =>
      have e : s :: row = r2 := e
      subst e
      exact ⟨[], l, [], s.n :: w, rfl, rfl, .nil, .tok hs h⟩
    | cons x r1 =>
      injection e with e1 e2
      subst e1
      obtain ⟨l1, l2, u, v, h1, h2, h3, h4⟩ := ih e2
      exact ⟨l1, l2, s.n :: u, v, h1, by rw [h2]; rfl, .tok hs h3, h4⟩
  | @non l s row w i p hs hi hl h ih =>
    intro r1 r2 e
    cases r1 with
    | nil =>
      have e : s :: row = r2 := e
      subst e
      exact ⟨[], i :: l, [], w, rfl, rfl, .nil, .non hs hi hl h⟩
    | cons x r1 =>
      injection e with e1 e2
      subst e1
      obtain ⟨l1, l2, u, v, h1, h2, h3, h4⟩ := ih (r1 := p.right ++ r1) (r2 := r2) (by rw [List.append_assoc]; exact congrArg (p.right ++ ·) e2)
      exact ⟨i :: l1, l2, u, v, by rw [h1]; rfl, h2, .non hs hi hl h3, h4⟩
/-- The word of a derivation comes. -/
theorem Dr.cm {g : Gm} {l : List Nat} {r : List Sy} {w : List Int} (h : Dr g.prods l r w) : Cm g r w := by
  induction h with
  | nil => exact .nil
  | tok hs _ ih => exact .tok hs ih
  | non hs hi hl _ ih =>
    obtain ⟨u, v, rfl, h1, h2⟩ := ih.split
    exact .non hs (List.mem_of_getElem? hi) hl h1 h2
/-- And what comes has a derivation. -/
theorem cm_dr {g : Gm} {r : List Sy} {w : List Int} (h : Cm g r w) : ∃ l, Dr g.prods l r w := by
  induction h with
  | nil => exact ⟨[], .nil⟩
  | tok hs _ ih => obtain ⟨l, h⟩ := ih; exact ⟨l, .tok hs h⟩
  | non hs hp hl _ _ ih1 ih2 =>
    obtain ⟨l1, h1⟩ := ih1
    obtain ⟨l2, h2⟩ := ih2
    obtain ⟨i, hi⟩ := List.mem_iff_getElem?.mp hp
    exact ⟨i :: (l1 ++ l2), .non hs hi hl (h1.append h2)⟩
/-- A derivation has one word; none is the beginning of another one. -/
theorem Dr.apart {ps : List Pr} {l : List Nat} {r : List Sy} {w : List Int} (h : Dr ps l r w) : ∀ {m : List Nat} {v : List Int}, Dr ps (l ++ m) r v → m = [] ∧ w = v := by
  induction h with
  | nil => intro m v h; obtain ⟨h1, h2⟩ := h.nil_inv; exact ⟨h1, h2.symm⟩
  | tok hs _ ih =>
    intro m v h
    obtain ⟨v, rfl, hv⟩ := h.tok_inv hs
    obtain ⟨h1, h2⟩ := ih hv
    exact ⟨h1, by rw [h2]⟩
  | non hs hi hl _ ih =>
    intro m v h
    obtain ⟨i', m', p', h1, h2, h3, h4⟩ := h.non_inv hs
    injection h1 with h5 h6
    subst h5
    rw [hi] at h2
    injection h2 with h2
    subst h2
    rw [← h6] at h4
    exact ih h4
theorem Dr.one {ps : List Pr} {l : List Nat} {r : List Sy} {w v : List Int} (h : Dr ps l r w) (h2 : Dr ps l r v) : w = v := (h.apart (m := []) (by rw [List.append_nil]; exact h2)).2

/-- The terminals with which a row begins, and the rest. -/
def toks : List Sy → List Int
  | [] => []
  | s :: r => if s.non then [] else s.n :: toks r
def rest : List Sy → List Sy
  | [] => []
  | s :: r => if s.non then s :: r else rest r
theorem rest_len : ∀ r, (rest r).length ≤ r.length
  | [] => Nat.le_refl _
  | s :: r => by
    unfold rest
    split
    · exact Nat.le_refl _
    · have := rest_len r; simp; omega
theorem rest_head : ∀ {r : List Sy} {s : Sy} {q : List Sy}, rest r = s :: q → s.non = true
  | [], s, q, h => absurd h (by simp [rest])
  | x :: r, s, q, h => by
    unfold rest at h
    split at h
    · injection h with h1 _; subst h1; assumption
    · exact rest_head h
theorem dr_rest {ps : List Pr} : ∀ {l : List Nat} {r : List Sy} {w : List Int}, Dr ps l r w ↔ ∃ v, w = toks r ++ v ∧ Dr ps l (rest r) v
  | l, [], w => by
    constructor
    · intro h; exact ⟨w, rfl, h⟩
    · rintro ⟨v, rfl, h⟩; exact h
  | l, s :: r, w => by
    unfold toks rest
    cases e : s.non with
    | true =>
      rw [if_pos rfl, if_pos rfl]
      constructor
      · intro h; exact ⟨w, rfl, h⟩
      · rintro ⟨v, rfl, h⟩; exact h
    | false =>
      rw [if_neg (by decide), if_neg (by decide)]
      constructor
      · intro h
        obtain ⟨v, rfl, hv⟩ := h.tok_inv e
        obtain ⟨v', rfl, h'⟩ := dr_rest.mp hv
        exact ⟨v', rfl, h'⟩
      · rintro ⟨v, rfl, h⟩
        exact .tok e (dr_rest.mpr ⟨v, rfl, h⟩)
theorem cm_rest {g : Gm} {r : List Sy} {w : List Int} : Cm g r w ↔ ∃ v, w = toks r ++ v ∧ Cm g (rest r) v := by
  constructor
  · intro h
    obtain ⟨l, hl⟩ := cm_dr h
    obtain ⟨v, e, hv⟩ := dr_rest.mp hl
    exact ⟨v, e, hv.cm⟩
  · rintro ⟨v, e, h⟩
    obtain ⟨l, hl⟩ := cm_dr h
    exact (dr_rest.mpr ⟨v, e, hl⟩).cm

/-- What becomes of a row by productions: a word, or what is wrong (2: one does not fit, 3: nonterminals are left). -/
def play (ps : List Pr) : List Int → List Sy → List Int × Nat
  | [], row => match rest row with
    | [] => (toks row, 0)
    | _ :: _ => ([], 3)
  | i :: l, row => match rest row with
    | [] => ([], 2)
    | s :: r => match (if 0 ≤ i then ps[i.toNat]? else none) with
      | none => ([], 2)
      | some p => if p.left = s.n then (if (play ps l (p.right ++ r)).2 = 0 then (toks row ++ (play ps l (p.right ++ r)).1, 0) else ([], (play ps l (p.right ++ r)).2)) else ([], 2)
theorem play_dr {ps : List Pr} : ∀ {l : List Int} {row : List Sy} {w : List Int}, play ps l row = (w, 0) ↔ ∃ m : List Nat, l = m.map (fun (i : Nat) => (i : Int)) ∧ Dr ps m row w
  | [], row, w => by
    unfold play
    cases e : rest row with
    | nil =>
      show (toks row, 0) = (w, 0) ↔ _
      constructor
      · intro h
        injection h with h _
        refine ⟨[], rfl, dr_rest.mpr ⟨[], by rw [← h]; simp, by rw [e]; exact .nil⟩⟩
      · rintro ⟨m, hm, h⟩
        have hm : m = [] := by cases m with
          | nil => rfl
          | cons x m => exact absurd hm (by simp)
        subst hm
        obtain ⟨v, rfl, hv⟩ := dr_rest.mp h
        rw [e] at hv
        rw [hv.nil_inv.2]; simp
    | cons s r =>
      show (([], 3) : List Int × Nat) = (w, 0) ↔ _
      constructor
      · intro h; injection h with _ h; exact absurd h (by decide)
      · rintro ⟨m, hm, h⟩
        have hm : m = [] := by cases m with
          | nil => rfl
          | cons x m => exact absurd hm (by simp)
        subst hm
        obtain ⟨v, rfl, hv⟩ := dr_rest.mp h
        rw [e] at hv
        obtain ⟨i, m, p, h1, _⟩ := hv.non_inv (rest_head e)
        exact absurd h1 (by simp)
  | i :: l, row, w => by
    unfold play
    cases e : rest row with
    | nil =>
      show (([], 2) : List Int × Nat) = (w, 0) ↔ _
      constructor
      · intro h; injection h with _ h; exact absurd h (by decide)
      · rintro ⟨m, hm, h⟩
        obtain ⟨v, rfl, hv⟩ := dr_rest.mp h
        rw [e] at hv
        rw [hv.nil_inv.1] at hm
        exact absurd hm (by simp)
    | cons s r =>
      have hs := rest_head e
      show (match (if 0 ≤ i then ps[i.toNat]? else none) with
        | none => (([], 2) : List Int × Nat)
        | some p => if p.left = s.n then (if (play ps l (p.right ++ r)).2 = 0 then (toks row ++ (play ps l (p.right ++ r)).1, 0) else ([], (play ps l (p.right ++ r)).2)) else ([], 2)) = (w, 0) ↔ _
      have bad : (([], 2) : List Int × Nat) = (w, 0) ↔ False := ⟨fun h => by injection h with _ h; exact absurd h (by decide), False.elim⟩
      cases e2 : (if 0 ≤ i then ps[i.toNat]? else none) with
      | none =>
        show (([], 2) : List Int × Nat) = (w, 0) ↔ _
        rw [bad, false_iff]
        rintro ⟨m, hm, h⟩
        obtain ⟨v, rfl, hv⟩ := dr_rest.mp h
        rw [e] at hv
        obtain ⟨i', m', p', rfl, h2, _⟩ := hv.non_inv hs
        injection hm with h3 _
        have h3 : i = (i' : Int) := h3
        rw [if_pos (by omega), h3, Int.toNat_natCast, h2] at e2
        exact absurd e2 (by simp)
      | some p =>
        have h0 : 0 ≤ i := by
          rcases Int.lt_or_le i 0 with h0 | h0
          · rw [if_neg (by omega)] at e2; exact absurd e2 (by simp)
          · exact h0
        rw [if_pos h0] at e2
        show (if p.left = s.n then (if (play ps l (p.right ++ r)).2 = 0 then (toks row ++ (play ps l (p.right ++ r)).1, 0) else ([], (play ps l (p.right ++ r)).2)) else ([], 2)) = (w, 0) ↔ _
        by_cases hl : p.left = s.n
        · rw [if_pos hl]
          constructor
          · intro h
            by_cases h1 : (play ps l (p.right ++ r)).2 = 0
            · rw [if_pos h1] at h
              injection h with h _
              obtain ⟨m, hm, hd⟩ := (play_dr (l := l) (row := p.right ++ r) (w := (play ps l (p.right ++ r)).1)).mp (by rw [← h1])
              refine ⟨i.toNat :: m, ?_, dr_rest.mpr ⟨_, h.symm, by rw [e]; exact .non hs e2 hl hd⟩⟩
              show i :: l = ((i.toNat : Nat) : Int) :: _
              rw [Int.toNat_of_nonneg h0, hm]
            · rw [if_neg h1] at h
              injection h with _ h
              exact absurd h h1
          · rintro ⟨m, hm, h⟩
            obtain ⟨v, rfl, hv⟩ := dr_rest.mp h
            rw [e] at hv
            obtain ⟨i', m', p', rfl, h2, h3, h4⟩ := hv.non_inv hs
            injection hm with h5 h6
            have h5 : i = (i' : Int) := h5
            rw [h5, Int.toNat_natCast, h2] at e2
            injection e2 with e2
            subst e2
            have := play_dr.mpr ⟨m', h6, h4⟩
            rw [this, if_pos rfl]
        · rw [if_neg hl, bad, false_iff]
          rintro ⟨m, hm, h⟩
          obtain ⟨v, rfl, hv⟩ := dr_rest.mp h
          rw [e] at hv
          obtain ⟨i', m', p', rfl, h2, h3, _⟩ := hv.non_inv hs
          injection hm with h5 _
          have h5 : i = (i' : Int) := h5
          rw [h5, Int.toNat_natCast, h2] at e2
          injection e2 with e2
          subst e2
          exact hl h3

/-- Which of two stands ahead. -/
def less : List Int → List Int → Bool
  | [], [] => false
  | [], _ :: _ => true
  | _ :: _, [] => false
  | a :: l, b :: m => if a = b then less l m else decide (a < b)
theorem less_irrefl : ∀ l, less l l = false
  | [] => rfl
  | a :: l => by unfold less; rw [if_pos rfl]; exact less_irrefl l
theorem less_asymm : ∀ l m, less l m = true → less m l = false
  | [], [], h => absurd h (by simp [less])
  | [], _ :: _, _ => rfl
  | _ :: _, [], h => absurd h (by simp [less])
  | a :: l, b :: m, h => by
    unfold less at h ⊢
    by_cases e : a = b
    · rw [if_pos e] at h
      rw [if_pos e.symm]
      exact less_asymm l m h
    · rw [if_neg e] at h
      rw [if_neg (fun x => e x.symm)]
      have := of_decide_eq_true h
      exact decide_eq_false (by omega)
theorem less_total : ∀ l m, l ≠ m → less l m = false → less m l = true
  | [], [], h, _ => absurd rfl h
  | [], _ :: _, _, h => absurd h (by simp [less])
  | _ :: _, [], _, _ => rfl
  | a :: l, b :: m, h, h2 => by
    unfold less at h2 ⊢
    by_cases e : a = b
    · rw [if_pos e] at h2
      rw [if_pos e.symm]
      exact less_total l m (fun x => h (by rw [e, x])) h2
    · rw [if_neg e] at h2
      rw [if_neg (fun x => e x.symm)]
      have := of_decide_eq_false h2
      exact decide_eq_true (by omega)

/-- The next production of a row, by a choice: a derivation that goes by it at each step. -/
inductive By (ps : List Pr) (pick : Sy → List Sy → List Int → Option Nat) : List Nat → List Sy → List Int → Prop
  | nil : By ps pick [] [] []
  | tok {l : List Nat} {s : Sy} {row : List Sy} {w : List Int} : s.non = false → By ps pick l row w → By ps pick l (s :: row) (s.n :: w)
  | non {l : List Nat} {s : Sy} {row : List Sy} {w : List Int} {i : Nat} {p : Pr} : s.non = true → pick s row w = some i → ps[i]? = some p → p.left = s.n → By ps pick l (p.right ++ row) w → By ps pick (i :: l) (s :: row) w
theorem By.dr {ps : List Pr} {pick : Sy → List Sy → List Int → Option Nat} {l : List Nat} {r : List Sy} {w : List Int} (h : By ps pick l r w) : Dr ps l r w := by
  induction h with
  | nil => exact .nil
  | tok hs _ ih => exact .tok hs ih
  | non hs _ hi hl _ ih => exact .non hs hi hl ih
def ints (l : List Nat) : List Int := l.map (fun (i : Nat) => (i : Int))
theorem ints_cons (i : Nat) (l : List Nat) : ints (i :: l) = (i : Int) :: ints l := rfl
/-- No derivation stands ahead of the one that takes the least production by which the word may still come. -/
theorem By.least {ps : List Pr} {pick : Sy → List Sy → List Int → Option Nat} {l : List Nat} {r : List Sy} {w : List Int} (h : By ps pick l r w)
    (hp : ∀ s row w i j p m, pick s row w = some i → ps[j]? = some p → p.left = s.n → Dr ps m (p.right ++ row) w → i ≤ j) : ∀ {m : List Nat}, Dr ps m r w → less (ints m) (ints l) = false := by
  induction h with
  | nil => intro m hm; rw [hm.nil_inv.1]; rfl
  | tok hs _ ih =>
    intro m hm
    obtain ⟨v, e, hm⟩ := hm.tok_inv hs
    injection e with _ e
    subst e
    exact ih hm
  | @non l s row w i p hs hpk hi hl _ ih =>
    intro m hm
    obtain ⟨j, m', q, rfl, h2, h3, h4⟩ := hm.non_inv hs
    have hij := hp s row w i j q m' hpk h2 h3 h4
    rw [ints_cons, ints_cons]
    unfold less
    by_cases e : j = i
    · subst e
      rw [if_pos rfl]
      rw [hi] at h2
      injection h2 with h2
      subst h2
      exact ih h4
    · rw [if_neg (by omega)]
      exact decide_eq_false (by omega)
/-- And none behind the one that takes the greatest. -/
theorem By.greatest {ps : List Pr} {pick : Sy → List Sy → List Int → Option Nat} {l : List Nat} {r : List Sy} {w : List Int} (h : By ps pick l r w)
    (hp : ∀ s row w i j p m, pick s row w = some i → ps[j]? = some p → p.left = s.n → Dr ps m (p.right ++ row) w → j ≤ i) : ∀ {m : List Nat}, Dr ps m r w → less (ints l) (ints m) = false := by
  induction h with
  | nil => intro m hm; rw [hm.nil_inv.1]; rfl
  | tok hs _ ih =>
    intro m hm
    obtain ⟨v, e, hm⟩ := hm.tok_inv hs
    injection e with _ e
    subst e
    exact ih hm
  | @non l s row w i p hs hpk hi hl _ ih =>
    intro m hm
    obtain ⟨j, m', q, rfl, h2, h3, h4⟩ := hm.non_inv hs
    have hij := hp s row w i j q m' hpk h2 h3 h4
    rw [ints_cons, ints_cons]
    unfold less
    by_cases e : i = j
    · subst e
      rw [if_pos rfl]
      rw [hi] at h2
      injection h2 with h2
      subst h2
      exact ih h4
    · rw [if_neg (by omega)]
      exact decide_eq_false (by omega)
end Go.Proofs.Ytpblamiiggglaaa.Dv
/- Plain facts on items: what stands at each place of a word. No program is named here. -/
namespace Go.Proofs.Ytpblamiiggglaaa.Ch
open Gr (Sy Pr Gm okSy okPr Ok)
open Cf (Cm part)

/-- An item: a production, a place in it, and the place in the word at which it began. -/
structure Im where
  prod : Nat
  dot : Nat
  frm : Nat
  deriving DecidableEq

/-- The items of a word, place by place: the least. -/
inductive It (g : Gm) (w : List Int) : Nat → Im → Prop
  | start {i : Nat} {p : Pr} : g.prods[i]? = some p → p.left = g.start → It g w 0 ⟨i, 0, 0⟩
  | ahead {a : Nat} {x : Im} {p q : Pr} {s : Sy} {j : Nat} : It g w a x → g.prods[x.prod]? = some p → p.right[x.dot]? = some s → s.non = true → g.prods[j]? = some q → q.left = s.n → It g w a ⟨j, 0, a⟩
  | over {a : Nat} {x : Im} {p : Pr} {s : Sy} : It g w a x → g.prods[x.prod]? = some p → p.right[x.dot]? = some s → s.non = false → w[a]? = some s.n → It g w (a + 1) ⟨x.prod, x.dot + 1, x.frm⟩
  | whole {a : Nat} {x y : Im} {p q : Pr} {s : Sy} : It g w a x → g.prods[x.prod]? = some p → x.dot = p.right.length → It g w x.frm y → g.prods[y.prod]? = some q → q.right[y.dot]? = some s → s.non = true → s.n = p.left → It g w a ⟨y.prod, y.dot + 1, y.frm⟩

theorem lt_of_get {α : Type} {l : List α} {i : Nat} {x : α} (h : l[i]? = some x) : i < l.length := by
  rcases Nat.lt_or_ge i l.length with h1 | h1
  · exact h1
  · rw [List.getElem?_eq_none h1] at h; exact absurd h (by simp)
theorem drop_get {α : Type} {l : List α} {i : Nat} {x : α} (h : l[i]? = some x) : l.drop i = x :: l.drop (i + 1) := by
  have hi := lt_of_get h
  rw [List.drop_eq_getElem_cons hi]
  rw [List.getElem?_eq_getElem hi] at h
  injection h with h
  rw [h]
theorem take_get {α : Type} {l : List α} {i : Nat} {x : α} (h : l[i]? = some x) : l.take (i + 1) = l.take i ++ [x] := by
  rw [List.take_add_one, h]; rfl

/-- Each item says what comes: its symbols so far, from where it began to where it stands. -/
theorem It.means {g : Gm} {w : List Int} {a : Nat} {x : Im} (h : It g w a x) : x.frm ≤ a ∧ a ≤ w.length ∧ ∃ p, g.prods[x.prod]? = some p ∧ x.dot ≤ p.right.length ∧ Cm g (p.right.take x.dot) (part w x.frm a) := by
  induction h with
  | @start i p hi _ => exact ⟨Nat.le_refl _, Nat.zero_le _, p, hi, Nat.zero_le _, by rw [Cf.part_self]; exact .nil⟩
  | @ahead a x p q s j _ _ _ _ hj _ ih => exact ⟨Nat.le_refl _, ih.2.1, q, hj, Nat.zero_le _, by rw [Cf.part_self]; exact .nil⟩
  | @over a x p s _ hp hs hn hw ih =>
    obtain ⟨h1, h2, p', hp', h3, h4⟩ := ih
    rw [hp] at hp'
    injection hp' with hp'
    subst hp'
    have hl := lt_of_get hs
    have ha := lt_of_get hw
    refine ⟨by show x.frm ≤ a + 1; omega, ha, p, hp, hl, ?_⟩
    show Cm g (p.right.take (x.dot + 1)) (part w x.frm (a + 1))
    rw [take_get hs, ← Cf.part_append w h1 (Nat.le_succ a)]
    refine h4.append ?_
    rw [Cf.part_one hw]
    have := Cm.tok (g := g) hn .nil
    exact this
  | @whole a x y p q s _ hp hd _ hq hs hn hl ih1 ih2 =>
    obtain ⟨h1, h2, p', hp', h3, h4⟩ := ih1
    obtain ⟨h5, h6, q', hq', h7, h8⟩ := ih2
    rw [hp] at hp'
    injection hp' with hp'
    subst hp'
    rw [hq] at hq'
    injection hq' with hq'
    subst hq'
    refine ⟨by show y.frm ≤ a; omega, h2, q, hq, lt_of_get hs, ?_⟩
    show Cm g (q.right.take (y.dot + 1)) (part w y.frm a)
    rw [take_get hs, ← Cf.part_append w h5 h1]
    refine h8.append ?_
    rw [hd, List.take_length] at h4
    have := Cm.non (g := g) hn (List.mem_of_getElem? hp) hl.symm h4 .nil
    rw [List.append_nil] at this
    exact this
/-- What comes of the rest of an item, and of what is behind it, makes the word go on to one that comes. -/
theorem It.goes {g : Gm} (hg : Ok g) {w : List Int} {a : Nat} {x : Im} (h : It g w a x) : ∃ p l, g.prods[x.prod]? = some p ∧ (∀ s ∈ l, okSy g s) ∧ ∀ u, Cm g (p.right.drop x.dot ++ l) u → Cm g [⟨true, g.start⟩] (part w 0 a ++ u) := by
  induction h with
  | @start i p hi hl =>
    refine ⟨p, [], hi, by simp, ?_⟩
    intro u hu
    rw [Cf.part_self]
    have hu : Cm g (p.right ++ []) u := hu
    rw [List.append_nil] at hu
    exact Cm.one.mpr ⟨p, List.mem_of_getElem? hi, hl, hu⟩
  | @ahead a x p q s j _ hp hs hn hj hl ih =>
    obtain ⟨p', l, hp', hok, hgo⟩ := ih
    rw [hp] at hp'
    injection hp' with hp'
    subst hp'
    refine ⟨q, p.right.drop (x.dot + 1) ++ l, hj, ?_, ?_⟩
    · intro y hy
      rcases List.mem_append.mp hy with hy | hy
      · exact (hg.2.2.2.2.2.2.2 p (List.mem_of_getElem? hp)).2.2.2 y (List.mem_of_mem_drop hy)
      · exact hok y hy
    · intro u hu
      have hu : Cm g (q.right ++ (p.right.drop (x.dot + 1) ++ l)) u := hu
      obtain ⟨u1, u2, rfl, h1, h2⟩ := hu.split
      apply hgo
      rw [drop_get hs]
      exact .non hn (List.mem_of_getElem? hj) hl h1 h2
  | @over a x p s _ hp hs hn hw ih =>
    obtain ⟨p', l, hp', hok, hgo⟩ := ih
    rw [hp] at hp'
    injection hp' with hp'
    subst hp'
    refine ⟨p, l, hp, hok, ?_⟩
    intro u hu
    have h1 := hgo (s.n :: u) (by rw [drop_get hs]; exact .tok hn hu)
    rw [← Cf.part_append w (Nat.zero_le a) (Nat.le_succ a), Cf.part_one hw, List.append_assoc]
    exact h1
  | @whole a x y p q s hx hp hd _ hq hs hn hl ih1 ih2 =>
    obtain ⟨q', l, hq', hok, hgo⟩ := ih2
    rw [hq] at hq'
    injection hq' with hq'
    subst hq'
    obtain ⟨h1, h2, p', hp', h3, h4⟩ := hx.means
    rw [hp] at hp'
    injection hp' with hp'
    subst hp'
    rw [hd, List.take_length] at h4
    refine ⟨q, l, hq, hok, ?_⟩
    intro u hu
    have := hgo (part w x.frm a ++ u) (by rw [drop_get hs]; exact .non hn (List.mem_of_getElem? hp) hl.symm h4 hu)
    rw [← List.append_assoc, Cf.part_append w (Nat.zero_le _) h1] at this
    exact this

/-- Sets that have all that follows, up to some place. -/
def Has (g : Gm) (w : List Int) (last : Nat) (S : Nat → Im → Prop) : Prop :=
  (∀ i p, g.prods[i]? = some p → p.left = g.start → S 0 ⟨i, 0, 0⟩) ∧
  (∀ a x p s j q, a ≤ last → S a x → g.prods[x.prod]? = some p → p.right[x.dot]? = some s → s.non = true → g.prods[j]? = some q → q.left = s.n → S a ⟨j, 0, a⟩) ∧
  (∀ a x p s, a + 1 ≤ last → S a x → g.prods[x.prod]? = some p → p.right[x.dot]? = some s → s.non = false → w[a]? = some s.n → S (a + 1) ⟨x.prod, x.dot + 1, x.frm⟩) ∧
  (∀ a x y p q s, a ≤ last → S a x → x.frm ≤ a → g.prods[x.prod]? = some p → x.dot = p.right.length → S x.frm y → g.prods[y.prod]? = some q → q.right[y.dot]? = some s → s.non = true → s.n = p.left → S a ⟨y.prod, y.dot + 1, y.frm⟩)
theorem It.has (g : Gm) (w : List Int) (last : Nat) : Has g w last (It g w) :=
  ⟨fun _ _ h1 h2 => .start h1 h2, fun _ _ _ _ _ _ _ h h1 h2 h3 h4 h5 => .ahead h h1 h2 h3 h4 h5, fun _ _ _ _ _ h h1 h2 h3 h4 => .over h h1 h2 h3 h4, fun _ _ _ _ _ _ _ h _ h1 h2 h3 h4 h5 h6 h7 => .whole h h1 h2 h3 h4 h5 h6 h7⟩
/-- Such sets have all items of the word, up to that place. -/
theorem It.least {g : Gm} {w : List Int} {last : Nat} {S : Nat → Im → Prop} (hS : Has g w last S) {a : Nat} {x : Im} (h : It g w a x) : a ≤ last → S a x := by
  induction h with
  | start h1 h2 => intro _; exact hS.1 _ _ h1 h2
  | ahead _ h1 h2 h3 h4 h5 ih => intro ha; exact hS.2.1 _ _ _ _ _ _ ha (ih ha) h1 h2 h3 h4 h5
  | @over a x p s _ h1 h2 h3 h4 ih => intro ha; exact hS.2.2.1 a x p s ha (ih (by omega)) h1 h2 h3 h4
  | @whole a x y p q s hx h1 h2 _ h3 h4 h5 h6 ih1 ih2 =>
    intro ha
    have := (hx.means).1
    exact hS.2.2.2 a x y p q s ha (ih1 ha) this h1 h2 (ih2 (by omega)) h3 h4 h5 h6

/-- What comes of the next symbols of an item leads on. -/
theorem It.come {g : Gm} {w : List Int} {l : List Sy} {u : List Int} (h : Cm g l u) : ∀ {a b : Nat} {x : Im} {p : Pr} {r : List Sy}, It g w a x → g.prods[x.prod]? = some p → p.right.drop x.dot = l ++ r → a ≤ b → b ≤ w.length → part w a b = u → It g w b ⟨x.prod, x.dot + l.length, x.frm⟩ := by
  induction h with
  | nil =>
    intro a b x p r hx _ _ hab hb e
    have h1 := Cf.part_length (a := a) hb
    rw [e] at h1
    have h1 : 0 = b - a := h1
    obtain rfl : a = b := by omega
    exact hx
  | @tok s l v hs _ ih =>
    intro a b x p r hx hp hd hab hb e
    obtain ⟨h1, h2, h3⟩ := Cf.part_cons hb e
    have hg : p.right[x.dot]? = some s := by rw [← List.head?_drop, hd]; rfl
    have h4 := It.over hx hp hg hs h1
    have h5 : p.right.drop (x.dot + 1) = l ++ r := by
      have := drop_get hg
      rw [hd] at this
      injection this with _ this
      exact this.symm
    have := ih h4 hp h5 h3 hb h2
    show It g w b ⟨x.prod, x.dot + (l.length + 1), x.frm⟩
    rw [show x.dot + (l.length + 1) = x.dot + 1 + l.length by omega]
    exact this
  | @non s l u v p' hs hp' hl hr _ ih1 ih2 =>
    intro a b x p r hx hp hd hab hb e
    obtain ⟨c, h1, h2, h3, h4⟩ := Cf.part_split hab hb e
    have hg : p.right[x.dot]? = some s := by rw [← List.head?_drop, hd]; rfl
    obtain ⟨j, hj⟩ := List.mem_iff_getElem?.mp hp'
    have h5 := It.ahead hx hp hg hs hj hl
    have h6 := ih1 (r := []) h5 hj (by rw [List.append_nil]; rfl) h1 (by omega) h3
    have h6 : It g w c ⟨j, 0 + p'.right.length, a⟩ := h6
    rw [Nat.zero_add] at h6
    have h7 := It.whole h6 hj rfl hx hp hg hs hl.symm
    have h5 : p.right.drop (x.dot + 1) = l ++ r := by
      have := drop_get hg
      rw [hd] at this
      injection this with _ this
      exact this.symm
    have := ih2 h7 hp h5 h2 hb h4
    show It g w b ⟨x.prod, x.dot + (l.length + 1), x.frm⟩
    rw [show x.dot + (l.length + 1) = x.dot + 1 + l.length by omega]
    exact this
/-- Where what comes goes on with a token, an item waits for it. -/
theorem It.waits {g : Gm} {w : List Int} {t : Int} {v : List Int} {l : List Sy} {z : List Int} (h : Cm g l z) : ∀ {u : List Int} {a b : Nat} {x : Im} {p : Pr} {r : List Sy}, z = u ++ t :: v → It g w a x → g.prods[x.prod]? = some p → p.right.drop x.dot = l ++ r → a ≤ b → b ≤ w.length → part w a b = u →
    ∃ y q s, It g w b y ∧ g.prods[y.prod]? = some q ∧ q.right[y.dot]? = some s ∧ s.non = false ∧ s.n = t := by
  induction h generalizing v with
  | nil => intro u a b x p r e; exact absurd e (by simp)
  | @tok s l z hs _ ih =>
    intro u a b x p r e hx hp hd hab hb ep
    have hg : p.right[x.dot]? = some s := by rw [← List.head?_drop, hd]; rfl
    cases u with
    | nil =>
      injection e with e1 _
      have h1 := Cf.part_length (a := a) hb
      rw [ep] at h1
      have h1 : 0 = b - a := h1
      obtain rfl : a = b := by omega
      exact ⟨x, p, s, hx, hp, hg, hs, e1⟩
    | cons y u =>
      injection e with e1 e2
      subst e1
      obtain ⟨h1, h2, h3⟩ := Cf.part_cons hb ep
      have h4 := It.over hx hp hg hs h1
      have h5 : p.right.drop (x.dot + 1) = l ++ r := by
        have := drop_get hg
        rw [hd] at this
        injection this with _ this
        exact this.symm
      exact ih e2 h4 hp h5 h3 hb h2
  | @non s l u0 v0 p' hs hp' hl hr hc ih1 ih2 =>
    intro u a b x p r e hx hp hd hab hb ep
    have hg : p.right[x.dot]? = some s := by rw [← List.head?_drop, hd]; rfl
    obtain ⟨j, hj⟩ := List.mem_iff_getElem?.mp hp'
    have h5 := It.ahead hx hp hg hs hj hl
    rcases List.append_eq_append_iff.mp e with ⟨m, e1, e2⟩ | ⟨m, e1, e2⟩
    · -- u = u0 ++ m
      rw [e1] at ep
      obtain ⟨c, h1, h2, h3, h4⟩ := Cf.part_split hab hb ep
      have h6 := It.come (w := w) hr (r := []) h5 hj (by rw [List.append_nil]; rfl) h1 (by omega) h3
      have h6 : It g w c ⟨j, 0 + p'.right.length, a⟩ := h6
      rw [Nat.zero_add] at h6
      have h7 := It.whole h6 hj rfl hx hp hg hs hl.symm
      have h8 : p.right.drop (x.dot + 1) = l ++ r := by
        have := drop_get hg
        rw [hd] at this
        injection this with _ this
        exact this.symm
      exact ih2 e2 h7 hp h8 h2 hb h4
    · cases m with
      | nil =>
        -- the cut is just behind it
        rw [List.append_nil] at e1
        subst e1
        have e2 : v0 = [] ++ t :: v := e2.symm
        have h6 := It.come (w := w) hr (r := []) h5 hj (by rw [List.append_nil]; rfl) hab hb ep
        have h6 : It g w b ⟨j, 0 + p'.right.length, a⟩ := h6
        rw [Nat.zero_add] at h6
        have h7 := It.whole h6 hj rfl hx hp hg hs hl.symm
        have h8 : p.right.drop (x.dot + 1) = l ++ r := by
          have := drop_get hg
          rw [hd] at this
          injection this with _ this
          exact this.symm
        exact ih2 e2 h7 hp h8 (Nat.le_refl b) hb (Cf.part_self w b)
      | cons y m =>
        injection e2 with e3 e4
        subst e3
        exact ih1 (v := m) (r := []) e1 h5 hj (by rw [List.append_nil]; rfl) hab hb ep

/-- A token is next at an item just if the word goes on with it to one that comes. -/
theorem next_iff {g : Gm} (hg : Ok g) (hv : ∀ l, (∀ s ∈ l, okSy g s) → ∃ u, Cm g l u) {w : List Int} {a : Nat} (ha : a ≤ w.length) (t : Int) :
    (∃ x p s, It g w a x ∧ g.prods[x.prod]? = some p ∧ p.right[x.dot]? = some s ∧ s.non = false ∧ s.n = t) ↔ ∃ v, Cm g [⟨true, g.start⟩] (w.take a ++ t :: v) := by
  constructor
  · rintro ⟨x, p, s, hx, hp, hs, hn, rfl⟩
    obtain ⟨p', l, hp', hok, hgo⟩ := hx.goes hg
    rw [hp] at hp'
    injection hp' with hp'
    subst hp'
    obtain ⟨u, hu⟩ := hv (p.right.drop (x.dot + 1) ++ l) (by
      intro y hy
      rcases List.mem_append.mp hy with hy | hy
      · exact (hg.2.2.2.2.2.2.2 p (List.mem_of_getElem? hp)).2.2.2 y (List.mem_of_mem_drop hy)
      · exact hok y hy)
    exact ⟨u, hgo (s.n :: u) (by rw [drop_get hs]; exact .tok hn hu)⟩
  · rintro ⟨v, h⟩
    obtain ⟨p, hp, hl, hr⟩ := Cm.one.mp h
    obtain ⟨j, hj⟩ := List.mem_iff_getElem?.mp hp
    exact It.waits hr rfl (It.start hj hl) hj (by show p.right.drop 0 = p.right ++ []; rw [List.append_nil]; rfl) (Nat.zero_le a) ha rfl
/-- Without that all comes of something: what goes on so has an item that waits. -/
theorem next_of {g : Gm} {w : List Int} {a : Nat} (ha : a ≤ w.length) {t : Int} {v : List Int} (h : Cm g [⟨true, g.start⟩] (w.take a ++ t :: v)) :
    ∃ x p s, It g w a x ∧ g.prods[x.prod]? = some p ∧ p.right[x.dot]? = some s ∧ s.non = false ∧ s.n = t := by
  obtain ⟨p, hp, hl, hr⟩ := Cm.one.mp h
  obtain ⟨j, hj⟩ := List.mem_iff_getElem?.mp hp
  exact It.waits hr rfl (It.start hj hl) hj (by show p.right.drop 0 = p.right ++ []; rw [List.append_nil]; rfl) (Nat.zero_le a) ha rfl
/-- A whole item of Start, from 0, stands just where what is ahead comes. -/
theorem end_iff {g : Gm} {w : List Int} {a : Nat} (ha : a ≤ w.length) :
    (∃ x p, It g w a x ∧ g.prods[x.prod]? = some p ∧ x.dot = p.right.length ∧ p.left = g.start ∧ x.frm = 0) ↔ Cm g [⟨true, g.start⟩] (w.take a) := by
  constructor
  · rintro ⟨x, p, hx, hp, hd, hl, h0⟩
    obtain ⟨_, _, p', hp', _, h4⟩ := hx.means
    rw [hp] at hp'
    injection hp' with hp'
    subst hp'
    rw [hd, List.take_length, h0] at h4
    exact Cm.one.mpr ⟨p, List.mem_of_getElem? hp, hl, h4⟩
  · intro h
    obtain ⟨p, hp, hl, hr⟩ := Cm.one.mp h
    obtain ⟨j, hj⟩ := List.mem_iff_getElem?.mp hp
    have := It.come (w := w) hr (r := []) (It.start hj hl) hj (by show p.right.drop 0 = p.right ++ []; rw [List.append_nil]; rfl) (Nat.zero_le a) ha rfl
    exact ⟨_, p, this, hj, by show 0 + p.right.length = _; omega, hl, rfl⟩
end Go.Proofs.Ytpblamiiggglaaa.Ch
/- Plain facts on the nodes of derivations, and on derivations that are alone in sets of items. No program is named here. -/
namespace Go.Proofs.Ytpblamiiggglaaa.Al
open Gr (Sy Pr Gm okSy okPr Ok)
open Cf (Cm part)
open Dv (Dr)
open Ch (Im It)

/-- A node: a production, from where to where, and where its symbols begin. -/
structure No where
  prod : Nat
  frm : Nat
  at_ : List Nat
  stop : Nat

/-- The nodes of a derivation of a row, over a part of a word, and where the row's symbols begin. -/
inductive Nd (ps : List Pr) (w : List Int) : List Nat → List Sy → Nat → Nat → List No → List Nat → Prop
  | nil {a : Nat} : Nd ps w [] [] a a [] []
  | tok {l : List Nat} {s : Sy} {row : List Sy} {a b : Nat} {ns : List No} {pl : List Nat} : s.non = false → w[a]? = some s.n → Nd ps w l row (a + 1) b ns pl → Nd ps w l (s :: row) a b ns (a :: pl)
  | non {l m : List Nat} {s : Sy} {row : List Sy} {a c b : Nat} {i : Nat} {p : Pr} {ns ns' : List No} {pl pl' : List Nat} : s.non = true → ps[i]? = some p → p.left = s.n →
      Nd ps w l p.right a c ns pl → Nd ps w m row c b ns' pl' → Nd ps w (i :: (l ++ m)) (s :: row) a b (⟨i, a, pl, c⟩ :: (ns ++ ns')) (a :: pl')

theorem Nd.le {ps : List Pr} {w : List Int} {l : List Nat} {r : List Sy} {a b : Nat} {ns : List No} {pl : List Nat} (h : Nd ps w l r a b ns pl) : a ≤ b ∧ (a ≤ w.length → b ≤ w.length) := by
  induction h with
  | nil => exact ⟨Nat.le_refl _, id⟩
  | tok _ hw _ ih =>
    have := Ch.lt_of_get hw
    exact ⟨by omega, fun _ => ih.2 (by omega)⟩
  | non _ _ _ _ _ ih1 ih2 => exact ⟨by omega, fun h => ih2.2 (ih1.2 h)⟩
theorem Nd.places {ps : List Pr} {w : List Int} {l : List Nat} {r : List Sy} {a b : Nat} {ns : List No} {pl : List Nat} (h : Nd ps w l r a b ns pl) : pl.length = r.length ∧ (pl ++ [b])[0]? = some a := by
  induction h with
  | nil => exact ⟨rfl, rfl⟩
  | tok _ _ _ ih => exact ⟨by show _ + 1 = _ + 1; rw [ih.1], rfl⟩
  | non _ _ _ _ _ _ ih2 => exact ⟨by show _ + 1 = _ + 1; rw [ih2.1], rfl⟩
theorem Nd.dr {ps : List Pr} {w : List Int} {l : List Nat} {r : List Sy} {a b : Nat} {ns : List No} {pl : List Nat} (h : Nd ps w l r a b ns pl) : Dr ps l r (part w a b) := by
  induction h with
  | nil => rw [Cf.part_self]; exact .nil
  | @tok l s row a b ns pl hs hw h ih =>
    rw [← Cf.part_append w (Nat.le_succ a) h.le.1, Cf.part_one hw]
    exact .tok hs ih
  | @non l m s row a c b i p ns ns' pl pl' hs hi hl h1 h2 ih1 ih2 =>
    rw [← Cf.part_append w h1.le.1 h2.le.1]
    exact .non hs hi hl (ih1.append ih2)
theorem Nd.split {ps : List Pr} {w : List Int} : ∀ {r1 r2 : List Sy} {l : List Nat} {a b : Nat} {ns : List No} {pl : List Nat}, Nd ps w l (r1 ++ r2) a b ns pl →
    ∃ c l1 l2 n1 n2 p1 p2, l = l1 ++ l2 ∧ ns = n1 ++ n2 ∧ pl = p1 ++ p2 ∧ Nd ps w l1 r1 a c n1 p1 ∧ Nd ps w l2 r2 c b n2 p2
  | [], r2, l, a, b, ns, pl, h => ⟨a, [], l, [], ns, [], pl, rfl, rfl, rfl, .nil, h⟩
  | s :: r1, r2, l, a, b, ns, pl, h => by
    rw [List.cons_append] at h
    generalize er : s :: (r1 ++ r2) = r at h
    cases h with
    | nil => exact absurd er (by simp)
    | @tok l s' row a b ns pl hs hw h =>
      injection er with e1 e2
      subst e1; subst e2
      obtain ⟨c, l1, l2, n1, n2, p1, p2, h1, h2, h3, h4, h5⟩ := Nd.split h
      exact ⟨c, l1, l2, n1, n2, a :: p1, p2, h1, h2, by rw [h3]; rfl, .tok hs hw h4, h5⟩
    | @non l m s' row a d b i p ns ns' pl pl' hs hi hl h1 h2 =>
      injection er with e1 e2
      subst e1; subst e2
      obtain ⟨c, l1, l2, n1, n2, p1, p2, h3, h4, h5, h6, h7⟩ := Nd.split h2
      exact ⟨c, i :: (l ++ l1), l2, ⟨i, a, pl, d⟩ :: (ns ++ n1), n2, a :: p1, p2, by rw [h3]; simp, by rw [h4]; simp, by rw [h5]; rfl, .non hs hi hl h1 h6, h7⟩
/-- Each derivation of a part of a word has nodes. -/
theorem nd_of {ps : List Pr} {w : List Int} {l : List Nat} {r : List Sy} {v : List Int} (h : Dr ps l r v) : ∀ {a b : Nat}, a ≤ b → b ≤ w.length → part w a b = v → ∃ ns pl, Nd ps w l r a b ns pl := by
  induction h with
  | nil =>
    intro a b hab hb e
    have h1 := Cf.part_length (a := a) hb
    rw [e] at h1
    have h1 : 0 = b - a := h1
    obtain rfl : a = b := by omega
    exact ⟨[], [], .nil⟩
  | tok hs _ ih =>
    intro a b hab hb e
    obtain ⟨h1, h2, h3⟩ := Cf.part_cons hb e
    obtain ⟨ns, pl, h⟩ := ih (by omega) hb h2
    exact ⟨ns, a :: pl, .tok hs h1 h⟩
  | non hs hi hl _ ih =>
    intro a b hab hb e
    obtain ⟨ns, pl, h⟩ := ih hab hb e
    obtain ⟨c, l1, l2, n1, n2, p1, p2, rfl, _, _, h4, h5⟩ := h.split
    exact ⟨_, _, .non hs hi hl h4 h5⟩
/-- And just these. -/
theorem Nd.one {ps : List Pr} {w : List Int} {l : List Nat} {r : List Sy} {a b : Nat} {ns : List No} {pl : List Nat} (h : Nd ps w l r a b ns pl) : ∀ {m : List Nat} {b' : Nat} {ns' : List No} {pl' : List Nat}, Nd ps w m r a b' ns' pl' → (∃ x y, l ++ x = m ++ y) → l = m ∧ b = b' ∧ ns = ns' ∧ pl = pl' := by
  induction h with
  | nil => intro m b' ns' pl' h _; cases h; exact ⟨rfl, rfl, rfl, rfl⟩
  | tok hs hw _ ih =>
    intro m b' ns' pl' h e
    cases h with
    | tok _ _ h => obtain ⟨h1, h2, h3, h4⟩ := ih h e; exact ⟨h1, h2, h3, by rw [h4]⟩
    | non h1 => rw [hs] at h1; exact absurd h1 (by decide)
  | @non l m s row a c b i p ns ns2 pl pl2 hs hi hl h1 h2 ih1 ih2 =>
    intro m' b' ns' pl' h e
    cases h with
    | tok h3 => rw [hs] at h3; exact absurd h3 (by decide)
    | @non l' m'' _ _ _ c' _ i' p' ns3 ns4 pl3 pl4 _ hi' hl' h3 h4 =>
      obtain ⟨x, y, e⟩ := e
      injection e with e1 e2
      subst e1
      rw [hi] at hi'
      injection hi' with hi'
      subst hi'
      have e2 : l ++ m ++ x = l' ++ m'' ++ y := e2
      obtain ⟨h5, h6, h7, h8⟩ := ih1 h3 ⟨m ++ x, m'' ++ y, by rw [← List.append_assoc, ← List.append_assoc]; exact e2⟩
      subst h5; subst h6; subst h7; subst h8
      rw [List.append_assoc, List.append_assoc] at e2
      obtain ⟨h9, h10, h11, h12⟩ := ih2 h4 ⟨x, y, List.append_cancel_left e2⟩
      subst h9; subst h10; subst h11; subst h12
      exact ⟨rfl, rfl, rfl, rfl⟩

/-- Does a symbol lead from a place to a place, by what stands in sets? -/
def Leads (ps : List Pr) (w : List Int) (S : Nat → Im → Prop) (s : Sy) (m e : Nat) : Prop :=
  (s.non = false ∧ w[m]? = some s.n ∧ e = m + 1) ∨ (s.non = true ∧ ∃ y q, S e y ∧ ps[y.prod]? = some q ∧ y.dot = q.right.length ∧ q.left = s.n ∧ y.frm = m)
/-- No other place is there at which a symbol of these could begin. -/
def Rows (ps : List Pr) (w : List Int) (S : Nat → Im → Prop) (i f k0 : Nat) (t : List Sy) (pl : List Nat) (b : Nat) : Prop :=
  ∀ k s e m, t[k]? = some s → (pl ++ [b])[k + 1]? = some e → f ≤ m → m ≤ e → S m ⟨i, k0 + k, f⟩ → Leads ps w S s m e → (pl ++ [b])[k]? = some m
/-- A node beside which nothing else could stand. -/
def Lone (ps : List Pr) (w : List Int) (S : Nat → Im → Prop) (x : No) : Prop :=
  ∀ p, ps[x.prod]? = some p → (∀ y q, S x.stop y → ps[y.prod]? = some q → y.dot = q.right.length → q.left = p.left → y.frm = x.frm → y.prod = x.prod) ∧ Rows ps w S x.prod x.frm 0 p.right x.at_ x.stop
theorem Leads.mono {ps : List Pr} {w : List Int} {S T : Nat → Im → Prop} {s : Sy} {m e : Nat} (he : e ≤ w.length) (h : ∀ a x, a ≤ w.length → T a x → S a x) (hl : Leads ps w T s m e) : Leads ps w S s m e := by
  rcases hl with hl | ⟨h1, y, q, h2, h3⟩
  · exact .inl hl
  · exact .inr ⟨h1, y, q, h e y he h2, h3⟩
theorem Lone.mono {ps : List Pr} {w : List Int} {S T : Nat → Im → Prop} {x : No} (hst : ∀ e ∈ x.at_ ++ [x.stop], e ≤ w.length) (h : ∀ a y, a ≤ w.length → T a y → S a y) (hx : Lone ps w S x) : Lone ps w T x := by
  intro p hp
  obtain ⟨h1, h2⟩ := hx p hp
  constructor
  · intro y q hy
    exact h1 y q (h _ y (hst _ (by simp)) hy)
  · intro k s e m hk he hf hm hT hl
    have hle := hst e (List.mem_of_getElem? he)
    exact h2 k s e m hk he hf hm (h m _ (by omega) hT) (hl.mono hle h)

section
variable {g : Gm} {w : List Int}

theorem cm_of_nd {l : List Nat} {r : List Sy} {a b : Nat} {ns : List No} {pl : List Nat} (h : Nd g.prods w l r a b ns pl) : Cm g r (part w a b) := h.dr.cm
/-- A derivation whose nodes are alone is the only one over that part. -/
theorem lone_one : ∀ (n : Nat) (t r : List Sy) (i f c c' b : Nat) (p : Pr) (l l' : List Nat) (ns ns' : List No) (pl pl' : List Nat), l.length ≤ n → b ≤ w.length → g.prods[i]? = some p → p.right = r ++ t →
    Nd g.prods w l t c b ns pl → Nd g.prods w l' t c' b ns' pl' → It g w c' ⟨i, r.length, f⟩ → Rows g.prods w (It g w) i f r.length t pl b → (∀ x ∈ ns, Lone g.prods w (It g w) x) → (t ≠ [] → c = c') ∧ l = l' := by
  intro n
  induction n with
  | zero =>
    intro t
    induction t with
    | nil =>
      intro r i f c c' b p l l' ns ns' pl pl' hl hb hp he h1 h2 hi hr hx
      cases h1; cases h2
      exact ⟨fun h => absurd rfl h, rfl⟩
    | cons s t iht =>
      intro r i f c c' b p l l' ns ns' pl pl' hln hb hp he h1 h2 hi hr hx
      have hg : p.right[r.length]? = some s := by rw [he, List.getElem?_append_right (Nat.le_refl _), Nat.sub_self]; rfl
      cases h1 with
      | non _ _ _ _ _ => exact absurd hln (by simp)
      | @tok _ _ _ _ _ _ pl hs hw h1 =>
        cases h2 with
        | non hs2 => rw [hs] at hs2; exact absurd hs2 (by decide)
        | @tok _ _ _ _ _ _ pl' _ hw2 h2 =>
          have hi2 := It.over hi hp hg hs hw2
          have hr2 : Rows g.prods w (It g w) i f (r ++ [s]).length t pl b := by
            intro k s' e m hk he' hf hm hS hL
            rw [List.length_append] at hS
            exact hr (k + 1) s' e m hk he' hf hm (by rw [show r.length + (k + 1) = r.length + [s].length + k by simp; omega]; exact hS) hL
          have := iht (r ++ [s]) i f (c + 1) (c' + 1) b p l l' ns ns' pl pl' hln hb hp (by rw [he]; simp) h1 h2 (by rw [List.length_append]; exact hi2) hr2 hx
          have hcc : c + 1 = c' + 1 := by
            cases t with
            | nil => cases h1; cases h2; omega
            | cons _ _ => exact this.1 (by simp)
          exact ⟨fun _ => by omega, this.2⟩
  | succ n ihn =>
    intro t
    induction t with
    | nil =>
      intro r i f c c' b p l l' ns ns' pl pl' hl hb hp he h1 h2 hi hr hx
      cases h1; cases h2
      exact ⟨fun h => absurd rfl h, rfl⟩
    | cons s t iht =>
      intro r i f c c' b p l l' ns ns' pl pl' hln hb hp he h1 h2 hi hr hx
      have hg : p.right[r.length]? = some s := by rw [he, List.getElem?_append_right (Nat.le_refl _), Nat.sub_self]; rfl
      have hmeans := hi.means
      have hrow : ∀ {pl2 : List Nat} {d : Nat}, pl = c :: pl2 → Rows g.prods w (It g w) i f (r ++ [s]).length t pl2 b := by
        intro pl2 d e
        subst e
        intro k s' e m hk he' hf hm hS hL
        rw [List.length_append] at hS
        exact hr (k + 1) s' e m hk he' hf hm (by rw [show r.length + (k + 1) = r.length + [s].length + k by simp; omega]; exact hS) hL
      cases h1 with
      | @tok _ _ _ _ _ _ pl hs hw h1 =>
        cases h2 with
        | non hs2 => rw [hs] at hs2; exact absurd hs2 (by decide)
        | @tok _ _ _ _ _ _ pl' _ hw2 h2 =>
          have hi2 := It.over hi hp hg hs hw2
          have := iht (r ++ [s]) i f (c + 1) (c' + 1) b p l l' ns ns' pl pl' hln hb hp (by rw [he]; simp) h1 h2 (by rw [List.length_append]; exact hi2) (hrow (d := 0) rfl) hx
          have hcc : c + 1 = c' + 1 := by
            cases t with
            | nil => cases h1; cases h2; omega
            | cons _ _ => exact this.1 (by simp)
          exact ⟨fun _ => by omega, this.2⟩
      | @non l1 m1 _ _ _ d _ j q ns1 ns2 pl1 pl2 hs hj hq h11 h12 =>
        cases h2 with
        | tok hs2 => rw [hs] at hs2; exact absurd hs2 (by decide)
        | @non l1' m1' _ _ _ d' _ j' q' ns1' ns2' pl1' pl2' _ hj' hq' h21 h22 =>
          have hd' : d' ≤ w.length := by have := h22.le.1; omega
          -- the second's child, as an item
          have hpre := It.ahead hi hp hg hs hj' hq'
          have hwh := It.come (w := w) (cm_of_nd h21) (r := []) hpre hj' (by show q'.right.drop 0 = _; rw [List.append_nil]; rfl) h21.le.1 hd' rfl
          have hwh : It g w d' ⟨j', 0 + q'.right.length, c'⟩ := hwh
          rw [Nat.zero_add] at hwh
          have hi2 := It.whole hwh hj' rfl hi hp hg hs hq'.symm
          have hlen : m1.length ≤ n + 1 := by
            have e : (j :: (l1 ++ m1)).length = l1.length + m1.length + 1 := by simp
            omega
          have hlen1 : l1.length ≤ n := by
            have e : (j :: (l1 ++ m1)).length = l1.length + m1.length + 1 := by simp
            omega
          have key := iht (r ++ [s]) i f d d' b p m1 m1' ns2 ns2' pl2 pl2' hlen hb hp (by rw [he]; simp) h12 h22 (by rw [List.length_append]; exact hi2) (hrow (d := 0) rfl) (fun x hx' => hx x (by simp [hx']))
          have hdd : d = d' := by
            cases t with
            | nil => cases h12; cases h22; rfl
            | cons _ _ => exact key.1 (by simp)
          subst hdd
          have hcc : c = c' := by
            have e1 : (c :: pl2 ++ [b])[0 + 1]? = some d := by
              show (pl2 ++ [b])[0]? = some d
              exact h12.places.2
            have := hr 0 s d c' rfl e1 hmeans.1 h21.le.1 hi (.inr ⟨hs, ⟨j', q'.right.length, c'⟩, q', hwh, hj', rfl, hq', rfl⟩)
            have : some c = some c' := this
            injection this
          subst hcc
          have hlone := hx ⟨j, c, pl1, d⟩ (by simp)
          obtain ⟨ha, hb2⟩ := hlone q hj
          have hjj : j' = j := ha ⟨j', q'.right.length, c⟩ q' hwh hj' rfl (by rw [hq, hq']) rfl
          subst hjj
          rw [hj] at hj'
          injection hj' with hj'
          subst hj'
          have sub := ihn q.right [] j' c c c d q l1 l1' ns1 ns1' pl1 pl1' hlen1 hd' hj rfl h11 h21 hpre hb2 (fun x hx' => hx x (by simp [hx']))
          refine ⟨fun _ => rfl, ?_⟩
          rw [sub.2, key.2]
/-- A node stands in a derivation, and another production of its nonterminal may stand in its place. -/
theorem Nd.within {ps : List Pr} {w : List Int} {l : List Nat} {r : List Sy} {a b : Nat} {ns : List No} {pl : List Nat} (h : Nd ps w l r a b ns pl) : ∀ x ∈ ns, ∃ p pre lx post nsx, ps[x.prod]? = some p ∧ l = pre ++ (x.prod :: lx) ++ post ∧ Nd ps w lx p.right x.frm x.stop nsx x.at_ ∧ a ≤ x.frm ∧ x.stop ≤ b ∧
    ∀ y q ly, ps[y]? = some q → q.left = p.left → Dr ps ly q.right (part w x.frm x.stop) → Dr ps (pre ++ (y :: ly) ++ post) r (part w a b) := by
  induction h with
  | nil => intro x hx; exact absurd hx (by simp)
  | @tok l s row a b ns pl hs hw h ih =>
    intro x hx
    obtain ⟨p, pre, lx, post, nsx, h1, h2, h3, h4, h5, h6⟩ := ih x hx
    refine ⟨p, pre, lx, post, nsx, h1, h2, h3, by omega, h5, ?_⟩
    intro y q ly hy hq hd
    rw [← Cf.part_append w (Nat.le_succ a) h.le.1, Cf.part_one hw]
    exact .tok hs (h6 y q ly hy hq hd)
  | @non l m s row a c b i p ns ns' pl pl' hs hi hl h1 h2 ih1 ih2 =>
    intro x hx
    rcases List.mem_cons.mp hx with rfl | hx
    · refine ⟨p, [], l, m, ns, hi, rfl, h1, Nat.le_refl _, h2.le.1, ?_⟩
      intro y q ly hy hq hd
      show Dr ps (y :: ly ++ m) (s :: row) (part w a b)
      rw [← Cf.part_append w h1.le.1 h2.le.1]
      exact .non hs hy (hq.trans hl) (hd.append h2.dr)
    · rcases List.mem_append.mp hx with hx | hx
      · obtain ⟨p', pre, lx, post, nsx, h3, h4, h5, h6, h7, h8⟩ := ih1 x hx
        have := h2.le.1
        refine ⟨p', i :: pre, lx, post ++ m, nsx, h3, by rw [h4]; simp, h5, h6, by omega, ?_⟩
        intro y q ly hy hq hd
        have := (h8 y q ly hy hq hd).append h2.dr
        rw [Cf.part_append w h1.le.1 h2.le.1] at this
        have := Dr.non (l := pre ++ (y :: ly) ++ post ++ m) hs hi hl this
        rw [show (i :: pre) ++ (y :: ly) ++ (post ++ m) = i :: (pre ++ (y :: ly) ++ post ++ m) by simp]
        exact this
      · obtain ⟨p', pre, lx, post, nsx, h3, h4, h5, h6, h7, h8⟩ := ih2 x hx
        have := h1.le.1
        refine ⟨p', i :: (l ++ pre), lx, post, nsx, h3, by rw [h4]; simp, h5, by omega, h7, ?_⟩
        intro y q ly hy hq hd
        have := h1.dr.append (h8 y q ly hy hq hd)
        rw [Cf.part_append w h1.le.1 h2.le.1] at this
        have := Dr.non (l := l ++ (pre ++ (y :: ly) ++ post)) hs hi hl this
        rw [show i :: (l ++ pre) ++ (y :: ly) ++ post = i :: (l ++ (pre ++ (y :: ly) ++ post)) by simp]
        exact this
/-- All places of nodes lie within the part. -/
theorem Nd.bound {ps : List Pr} {w : List Int} {l : List Nat} {r : List Sy} {a b : Nat} {ns : List No} {pl : List Nat} (h : Nd ps w l r a b ns pl) : ∀ e ∈ pl ++ [b], a ≤ e ∧ e ≤ b := by
  induction h with
  | nil => intro e he; simp at he; omega
  | @tok l s row a b ns pl hs hw h ih =>
    intro e he
    rw [List.cons_append] at he
    rcases List.mem_cons.mp he with rfl | he
    · have := h.le.1; omega
    · have := ih e he; omega
  | @non l m s row a c b i p ns ns' pl pl' hs hi hl h1 h2 ih1 ih2 =>
    intro e he
    rw [List.cons_append] at he
    have h3 := h1.le.1
    have h4 := h2.le.1
    rcases List.mem_cons.mp he with rfl | he
    · omega
    · have := ih2 e he; omega
theorem Nd.bound_no {ps : List Pr} {w : List Int} {l : List Nat} {r : List Sy} {a b : Nat} {ns : List No} {pl : List Nat} (h : Nd ps w l r a b ns pl) (hb : b ≤ w.length) : ∀ x ∈ ns, ∀ e ∈ x.at_ ++ [x.stop], e ≤ w.length := by
  intro x hx e he
  obtain ⟨p, pre, lx, post, nsx, _, _, h3, _, h5, _⟩ := h.within x hx
  have := h3.bound e he
  omega
/-- Of two derivations of one row over one part that are the same to some place, the symbols lie at the same places. -/
theorem Nd.same {ps : List Pr} {w : List Int} {r t : List Sy} {l l' m m' : List Nat} {a c c' b : Nat} {n1 n1' n2 n2' : List No} {p1 p1' p2 p2' : List Nat}
    (h1 : Nd ps w l r a c n1 p1) (h1' : Nd ps w l' r a c' n1' p1') (_ : Nd ps w m t c b n2 p2) (_ : Nd ps w m' t c' b n2' p2') (e : l ++ m = l' ++ m') : c = c' ∧ l = l' := by
  have := h1.one h1' ⟨m, m', e⟩
  exact ⟨this.2.1, this.1⟩
/-- The only derivation of a word is alone in the word's items. -/
theorem one_lone {l : List Nat} {r : List Sy} {a b : Nat} {ns : List No} {pl : List Nat} (hb : b ≤ w.length) (h : Nd g.prods w l r a b ns pl) (hone : ∀ m, Dr g.prods m r (part w a b) → m = l) : ∀ x ∈ ns, Lone g.prods w (It g w) x := by
  intro x hx p hp
  obtain ⟨p', pre, lx, post, nsx, h1, h2, h3, h4, h5, h6⟩ := h.within x hx
  rw [hp] at h1
  injection h1 with h1
  subst h1
  constructor
  · intro y q hy hq hd hl hf
    obtain ⟨_, _, q', hq', _, hm⟩ := hy.means
    rw [hq] at hq'
    injection hq' with hq'
    subst hq'
    rw [hd, List.take_length, hf] at hm
    obtain ⟨ly, hly⟩ := Dv.cm_dr hm
    have := hone _ (h6 y.prod q ly hq hl hly)
    rw [h2, List.append_assoc, List.append_assoc] at this
    have := List.append_cancel_left this
    injection this
  · intro k s e m hk he hf hm hI hL
    have hbd := h3.bound e (List.mem_of_getElem? he)
    have hel : e ≤ w.length := by omega
    -- the node's own way: what is ahead of the symbol, the symbol, what is behind it
    have er : p.right = p.right.take k ++ (s :: p.right.drop (k + 1)) := by rw [← Ch.drop_get hk, List.take_append_drop]
    have h3' := h3
    rw [er] at h3'
    obtain ⟨c1, l1, l2, n1, n2, p1, p2, e1, e2, e3, h7, h8⟩ := h3'.split
    have hp1 : p1.length = k := by rw [h7.places.1, List.length_take]; have := Ch.lt_of_get hk; omega
    have hck : (x.at_ ++ [x.stop])[k]? = some c1 := by
      rw [e3, List.append_assoc, List.getElem?_append_right (by omega), hp1, Nat.sub_self]
      exact h8.places.2
    rw [hck]
    -- the other way
    obtain ⟨hfm, _, q0, hq0, _, hcm⟩ := hI.means
    have hq0 : g.prods[x.prod]? = some q0 := hq0
    rw [hp] at hq0
    injection hq0 with hq0
    subst hq0
    have hcm : Cm g (p.right.take (0 + k)) (part w x.frm m) := hcm
    rw [Nat.zero_add] at hcm
    obtain ⟨l1', hl1'⟩ := Dv.cm_dr hcm
    have hs2 : ∃ l2', Dr g.prods l2' [s] (part w m e) := by
      rcases hL with ⟨h9, h10, h11⟩ | ⟨h9, y, q, h10, h11, h12, h13, h14⟩
      · subst h11
        rw [Cf.part_one h10]
        exact ⟨[], .tok h9 .nil⟩
      · obtain ⟨_, _, q', hq', _, hy⟩ := h10.means
        rw [h11] at hq'
        injection hq' with hq'
        subst hq'
        rw [h12, List.take_length, h14] at hy
        obtain ⟨ly, hly⟩ := Dv.cm_dr hy
        exact ⟨y.prod :: ly, .non h9 h11 h13 (by rw [List.append_nil]; exact hly)⟩
    obtain ⟨l2', hl2'⟩ := hs2
    -- what is behind the symbol begins at e, in the node's own way
    have hbeh : ∃ l3 n3 p3, Nd g.prods w l3 (p.right.drop (k + 1)) e x.stop n3 p3 ∧ ∃ l20 n20 p20, l2 = l20 ++ l3 ∧ Nd g.prods w l20 [s] c1 e n20 p20 := by
      obtain ⟨d, l20, l3, n20, n3, p20, p3, e4, e5, e6, h15, h16⟩ := Nd.split (r1 := [s]) h8
      have hp20 : p20.length = 1 := h15.places.1
      have hde : (x.at_ ++ [x.stop])[k + 1]? = some d := by
        rw [e3, e6, List.append_assoc, List.getElem?_append_right (by omega), hp1, show k + 1 - k = 1 by omega, List.append_assoc, List.getElem?_append_right (by omega), hp20]
        exact h16.places.2
      rw [he] at hde
      injection hde with hde
      subst hde
      exact ⟨l3, n3, p3, h16, l20, n20, p20, e4, h15⟩
    obtain ⟨l3, n3, p3, h17, l20, n20, p20, e7, h18⟩ := hbeh
    have hdr : Dr g.prods (l1' ++ (l2' ++ l3)) p.right (part w x.frm x.stop) := by
      have h19 := hl1'.append (hl2'.append h17.dr)
      rw [Cf.part_append w hm hbd.2, Cf.part_append w hfm (by omega)] at h19
      rw [er]
      exact h19
    have := hone _ (h6 x.prod p _ hp rfl hdr)
    rw [h2, List.append_assoc, List.append_assoc] at this
    have := List.append_cancel_left this
    have this2 : l1' ++ (l2' ++ l3) ++ post = lx ++ post := by
      rw [List.cons_append, List.cons_append] at this
      injection this
    have this3 := List.append_cancel_right this2
    rw [e1, e7] at this3
    obtain ⟨ns1', pl1', hnd1'⟩ := nd_of (w := w) hl1' hfm (by omega) rfl
    have := h7.one hnd1' ⟨l20 ++ l3, l2' ++ l3, this3.symm⟩
    rw [this.2.1]
end
end Go.Proofs.Ytpblamiiggglaaa.Al
/- How a derivation is played, step by step, as a loop does it; and its nodes, one behind the other. Plain facts; no program is named here. -/
namespace Go.Proofs.Ytpblamiiggglaaa.Dv
open Gr (Sy Pr Gm okSy okPr Ok)
open Cf (Cm)

/-- A word ahead of what comes of the rest. -/
def pre (u : List Int) (x : List Int × Nat) : List Int × Nat := if x.2 = 0 then (u ++ x.1, 0) else ([], x.2)
theorem play_code {ps : List Pr} : ∀ (l : List Int) (row : List Sy), (play ps l row).2 ≠ 0 → (play ps l row).1 = []
  | [], row, h => by
    unfold play at h ⊢
    cases e : rest row with
    | nil => rw [e] at h; exact absurd rfl h
    | cons s r => rfl
  | i :: l, row, h => by
    unfold play at h ⊢
    cases e : rest row with
    | nil => rfl
    | cons s r =>
      rw [e] at h
      dsimp only at h ⊢
      cases e2 : (if 0 ≤ i then ps[i.toNat]? else none) with
      | none => rfl
      | some p =>
        rw [e2] at h
        dsimp only at h ⊢
        split
        · rename_i h1
          rw [if_pos h1] at h
          split
          · rename_i h2
            rw [if_pos h2] at h
            exact absurd rfl h
          · rfl
        · rfl
theorem pre_nil {x : List Int × Nat} (h : x.2 ≠ 0 → x.1 = []) : pre [] x = x := by
  unfold pre
  obtain ⟨v, c⟩ := x
  split
  · rename_i h1
    have h1 : c = 0 := h1
    subst h1; rfl
  · rename_i h1
    have h := h h1
    have h : v = [] := h
    rw [h]
theorem pre_pre (u v : List Int) (x : List Int × Nat) : pre u (pre v x) = pre (u ++ v) x := by
  unfold pre
  obtain ⟨y, c⟩ := x
  by_cases h : c = 0
  · subst h; simp
  · rw [if_neg h, if_neg h, if_neg h]
theorem pre_ok (u v : List Int) : pre u (v, 0) = (u ++ v, 0) := rfl
theorem pre_bad (u v : List Int) {c : Nat} (h : c ≠ 0) : pre u (v, c) = ([], c) := by unfold pre; rw [if_neg h]
section
variable {ps : List Pr} {s : Sy} {row : List Sy} {i : Int} {l : List Int}
theorem rest_non (h : s.non = true) : rest (s :: row) = s :: row := by unfold rest; rw [if_pos h]
theorem toks_non (h : s.non = true) : toks (s :: row) = [] := by unfold toks; rw [if_pos h]
theorem rest_tok (h : s.non = false) : rest (s :: row) = rest row := by conv => lhs; unfold rest; rw [if_neg (by rw [h]; decide)]
theorem toks_tok (h : s.non = false) : toks (s :: row) = s.n :: toks row := by conv => lhs; unfold toks; rw [if_neg (by rw [h]; decide)]
theorem play_tok (h : s.non = false) (l : List Int) : play ps l (s :: row) = pre [s.n] (play ps l row) := by
  cases l with
  | nil =>
    unfold play
    rw [rest_tok h, toks_tok h]
    cases e : rest row with
    | nil => rfl
    | cons x r => rfl
  | cons i l =>
    unfold play
    rw [rest_tok h, toks_tok h]
    cases e : rest row with
    | nil => rfl
    | cons x r =>
      dsimp only
      cases e2 : (if 0 ≤ i then ps[i.toNat]? else none) with
      | none => rfl
      | some p =>
        dsimp only
        by_cases h1 : p.left = x.n
        · rw [if_pos h1, if_pos h1]
          by_cases h2 : (play ps l (p.right ++ r)).2 = 0
          · rw [if_pos h2, if_pos h2]; rfl
          · rw [if_neg h2, if_neg h2, pre_bad _ _ h2]
        · rw [if_neg h1, if_neg h1]; rfl
theorem play_end : play ps [] [] = ([], 0) := rfl
theorem play_short (h : s.non = true) : play ps [] (s :: row) = ([], 3) := by unfold play; rw [rest_non h]
theorem play_empty (i : Int) (l : List Int) : play ps (i :: l) [] = ([], 2) := rfl
theorem play_bad (h : s.non = true) (hb : ¬ (0 ≤ i ∧ ∃ p, ps[i.toNat]? = some p ∧ p.left = s.n)) : play ps (i :: l) (s :: row) = ([], 2) := by
  unfold play
  rw [rest_non h]
  dsimp only
  cases e2 : (if 0 ≤ i then ps[i.toNat]? else none) with
  | none => rfl
  | some p =>
    dsimp only
    rw [if_neg]
    intro h1
    by_cases h0 : 0 ≤ i
    · rw [if_pos h0] at e2; exact hb ⟨h0, p, e2, h1⟩
    · rw [if_neg h0] at e2; cases e2
theorem play_step (h : s.non = true) {k : Nat} {p : Pr} (hp : ps[k]? = some p) (hl : p.left = s.n) : play ps ((k : Int) :: l) (s :: row) = play ps l (p.right ++ row) := by
  conv => lhs; unfold play
  rw [rest_non h]
  dsimp only
  rw [if_pos (Int.natCast_nonneg k), Int.toNat_natCast, hp]
  dsimp only
  rw [if_pos hl, toks_non h]
  split
  · rename_i h1
    rw [List.nil_append]
    exact Prod.ext rfl h1.symm
  · rename_i h1
    exact Prod.ext (play_code _ _ h1).symm rfl
theorem play_le : ∀ {l : List Int} {row : List Sy}, (play ps l row).2 ≤ 3
  | [], row => by
    unfold play
    cases e : rest row with
    | nil => exact Nat.zero_le _
    | cons s r => exact Nat.le_refl _
  | i :: l, row => by
    unfold play
    cases e : rest row with
    | nil => show 2 ≤ 3; decide
    | cons s r =>
      dsimp only
      cases e2 : (if 0 ≤ i then ps[i.toNat]? else none) with
      | none => show 2 ≤ 3; decide
      | some p =>
        dsimp only
        split
        · split
          · exact Nat.zero_le _
          · exact play_le
        · show 2 ≤ 3; decide
end
/-- What Replay tells: the word, or why there is none. -/
def replayOf (okg : Bool) (g : Gm) (l : List Int) : List Int × Nat :=
  if okg then (if 2000 < l.length then ([], 5) else play g.prods l [⟨true, g.start⟩]) else ([], 1)
theorem replay_arg (g : Gm) (l : List Int) : replayOf false g l = ([], 1) := rfl
theorem replay_big {g : Gm} {l : List Int} (h : 2000 < l.length) : replayOf true g l = ([], 5) := by unfold replayOf; rw [if_pos rfl, if_pos h]
theorem replay_play {g : Gm} {l : List Int} (h : l.length ≤ 2000) : replayOf true g l = play g.prods l [⟨true, g.start⟩] := by unfold replayOf; rw [if_pos rfl, if_neg (by omega)]
theorem replay_ok {okg : Bool} {g : Gm} {l : List Int} (h : (replayOf okg g l).2 = 0) : okg = true ∧ l.length ≤ 2000 ∧ ∃ m : List Nat, l = ints m ∧ Dr g.prods m [⟨true, g.start⟩] (replayOf okg g l).1 := by
  cases okg with
  | false => exact absurd h (by show ¬ (1 : Nat) = 0; decide)
  | true =>
    rcases Nat.lt_or_ge 2000 l.length with h1 | h1
    · rw [replay_big h1] at h; exact absurd h (by show ¬ (5 : Nat) = 0; decide)
    · rw [replay_play h1] at h ⊢
      refine ⟨rfl, h1, ?_⟩
      obtain ⟨m, hm, hd⟩ := (play_dr (ps := g.prods) (l := l) (row := [⟨true, g.start⟩]) (w := (play g.prods l [⟨true, g.start⟩]).1)).mp (Prod.ext rfl h)
      exact ⟨m, hm, hd⟩
theorem replay_le {okg : Bool} {g : Gm} {l : List Int} : (replayOf okg g l).2 ≤ 5 := by
  cases okg with
  | false => show 1 ≤ 5; decide
  | true =>
    rcases Nat.lt_or_ge 2000 l.length with h1 | h1
    · rw [replay_big h1]; exact Nat.le_refl _
    · rw [replay_play h1]
      have := play_le (ps := g.prods) (l := l) (row := [⟨true, g.start⟩])
      omega
theorem replay_none {okg : Bool} {g : Gm} {l : List Int} (h : (replayOf okg g l).2 ≠ 0) : (replayOf okg g l).1 = [] := by
  cases okg with
  | false => rfl
  | true =>
    rcases Nat.lt_or_ge 2000 l.length with h1 | h1
    · rw [replay_big h1]
    · rw [replay_play h1] at h ⊢
      exact play_code _ _ h
end Go.Proofs.Ytpblamiiggglaaa.Dv
