/- Plain facts on derivations, and on the least and the greatest of a word's. No program is named here. -/
import Derived.Test.YtpblamiiggglaaaPlainS
namespace Go.Proofs.Ytpblamiiggglaaa.Dv
open Gr (Sy Pr Gm okSy okPr Ok)
open Cf (Cm)

/-- Productions that turn a row of symbols into a word, the leftmost nonterminal first. -/
inductive Dr (ps : List Pr) : List Nat → List Sy → List Int → Prop
  | nil : Dr ps [] [] []
  | tok {l : List Nat} {s : Sy} {row : List Sy} {w : List Int} : s.non = false → Dr ps l row w → Dr ps l (s :: row) (s.n :: w)
  | non {l : List Nat} {s : Sy} {row : List Sy} {w : List Int} {i : Nat} {p : Pr} : s.non = true → ps[i]? = some p → p.left = s.n → Dr ps l (p.right ++ row) w → Dr ps (i :: l) (s :: row) w

theorem Dr.nil_inv {ps : List Pr} {l : List Nat} {w : List Int} (h : Dr ps l [] w) : l = [] ∧ w = [] := by cases h; exact ⟨rfl, rfl⟩
theorem Dr.tok_inv {ps : List Pr} {l : List Nat} {s : Sy} {row : List Sy} {w : List Int} (h : Dr ps l (s :: row) w) (hs : s.non = false) : ∃ v, w = s.n :: v ∧ Dr ps l row v := by
  cases h with
  | tok _ h => exact ⟨_, rfl, h⟩
  | non h1 => rw [hs] at h1; exact absurd h1 (by decide)
theorem Dr.non_inv {ps : List Pr} {l : List Nat} {s : Sy} {row : List Sy} {w : List Int} (h : Dr ps l (s :: row) w) (hs : s.non = true) : ∃ i m p, l = i :: m ∧ ps[i]? = some p ∧ p.left = s.n ∧ Dr ps m (p.right ++ row) w := by
  cases h with
  | tok h1 => rw [hs] at h1; exact absurd h1 (by decide)
  | non _ hi hl h => exact ⟨_, _, _, rfl, hi, hl, h⟩
theorem Dr.append {ps : List Pr} {l : List Nat} {r : List Sy} {u : List Int} (h : Dr ps l r u) {m : List Nat} {q : List Sy} {v : List Int} (hm : Dr ps m q v) : Dr ps (l ++ m) (r ++ q) (u ++ v) := by
  induction h with
  | nil => exact hm
  | tok hs _ ih => exact .tok hs ih
  | @non l s row w i p hs hi hl _ ih =>
    have ih : Dr ps (l ++ m) (p.right ++ row ++ q) (w ++ v) := ih
    rw [List.append_assoc] at ih
    exact .non hs hi hl ih
theorem Dr.split {ps : List Pr} {l : List Nat} {r : List Sy} {w : List Int} (h : Dr ps l r w) : ∀ {r1 r2 : List Sy}, r = r1 ++ r2 → ∃ l1 l2 u v, l = l1 ++ l2 ∧ w = u ++ v ∧ Dr ps l1 r1 u ∧ Dr ps l2 r2 v := by
  induction h with
  | nil =>
    intro r1 r2 e
    obtain ⟨rfl, rfl⟩ := List.append_eq_nil_iff.mp e.symm
    exact ⟨[], [], [], [], rfl, rfl, .nil, .nil⟩
  | @tok l s row w hs h ih =>
    intro r1 r2 e
    cases r1 with
    | nil =>
      have e : s :: row = r2 := e
      subst e
      exact ⟨[], l, [], s.n :: w, rfl, rfl, .nil, .tok hs h⟩
    | cons x r1 =>
      injection e with e1 e2
      subst e1
      obtain ⟨l1, l2, u, v, h1, h2, h3, h4⟩ := ih e2
      exact ⟨l1, l2, s.n :: u, v, h1, by rw [h2]; rfl, .tok hs h3, h4⟩
  | @non l s row w i p hs hi hl h ih =>
    intro r1 r2 e
    cases r1 with
    | nil =>
      have e : s :: row = r2 := e
      subst e
      exact ⟨[], i :: l, [], w, rfl, rfl, .nil, .non hs hi hl h⟩
    | cons x r1 =>
      injection e with e1 e2
      subst e1
      obtain ⟨l1, l2, u, v, h1, h2, h3, h4⟩ := ih (r1 := p.right ++ r1) (r2 := r2) (by rw [List.append_assoc]; exact congrArg (p.right ++ ·) e2)
      exact ⟨i :: l1, l2, u, v, by rw [h1]; rfl, h2, .non hs hi hl h3, h4⟩
/-- The word of a derivation comes. -/
theorem Dr.cm {g : Gm} {l : List Nat} {r : List Sy} {w : List Int} (h : Dr g.prods l r w) : Cm g r w := by
  induction h with
  | nil => exact .nil
  | tok hs _ ih => exact .tok hs ih
  | non hs hi hl _ ih =>
    obtain ⟨u, v, rfl, h1, h2⟩ := ih.split
    exact .non hs (List.mem_of_getElem? hi) hl h1 h2
/-- And what comes has a derivation. -/
theorem cm_dr {g : Gm} {r : List Sy} {w : List Int} (h : Cm g r w) : ∃ l, Dr g.prods l r w := by
  induction h with
  | nil => exact ⟨[], .nil⟩
  | tok hs _ ih => obtain ⟨l, h⟩ := ih; exact ⟨l, .tok hs h⟩
  | non hs hp hl _ _ ih1 ih2 =>
    obtain ⟨l1, h1⟩ := ih1
    obtain ⟨l2, h2⟩ := ih2
    obtain ⟨i, hi⟩ := List.mem_iff_getElem?.mp hp
    exact ⟨i :: (l1 ++ l2), .non hs hi hl (h1.append h2)⟩
/-- A derivation has one word; none is the beginning of another one. -/
theorem Dr.apart {ps : List Pr} {l : List Nat} {r : List Sy} {w : List Int} (h : Dr ps l r w) : ∀ {m : List Nat} {v : List Int}, Dr ps (l ++ m) r v → m = [] ∧ w = v := by
  induction h with
  | nil => intro m v h; obtain ⟨h1, h2⟩ := h.nil_inv; exact ⟨h1, h2.symm⟩
  | tok hs _ ih =>
    intro m v h
    obtain ⟨v, rfl, hv⟩ := h.tok_inv hs
    obtain ⟨h1, h2⟩ := ih hv
    exact ⟨h1, by rw [h2]⟩
  | non hs hi hl _ ih =>
    intro m v h
    obtain ⟨i', m', p', h1, h2, h3, h4⟩ := h.non_inv hs
    injection h1 with h5 h6
    subst h5
    rw [hi] at h2
    injection h2 with h2
    subst h2
    rw [← h6] at h4
    exact ih h4
theorem Dr.one {ps : List Pr} {l : List Nat} {r : List Sy} {w v : List Int} (h : Dr ps l r w) (h2 : Dr ps l r v) : w = v := (h.apart (m := []) (by rw [List.append_nil]; exact h2)).2

/-- The terminals with which a row begins, and the rest. -/
def toks : List Sy → List Int
  | [] => []
  | s :: r => if s.non then [] else s.n :: toks r
def rest : List Sy → List Sy
  | [] => []
  | s :: r => if s.non then s :: r else rest r
theorem rest_len : ∀ r, (rest r).length ≤ r.length
  | [] => Nat.le_refl _
  | s :: r => by
    unfold rest
    split
    · exact Nat.le_refl _
    · have := rest_len r; simp; omega
theorem rest_head : ∀ {r : List Sy} {s : Sy} {q : List Sy}, rest r = s :: q → s.non = true
  | [], s, q, h => absurd h (by simp [rest])
  | x :: r, s, q, h => by
    unfold rest at h
    split at h
    · injection h with h1 _; subst h1; assumption
    · exact rest_head h
theorem dr_rest {ps : List Pr} : ∀ {l : List Nat} {r : List Sy} {w : List Int}, Dr ps l r w ↔ ∃ v, w = toks r ++ v ∧ Dr ps l (rest r) v
  | l, [], w => by
    constructor
    · intro h; exact ⟨w, rfl, h⟩
    · rintro ⟨v, rfl, h⟩; exact h
  | l, s :: r, w => by
    unfold toks rest
    cases e : s.non with
    | true =>
      rw [if_pos rfl, if_pos rfl]
      constructor
      · intro h; exact ⟨w, rfl, h⟩
      · rintro ⟨v, rfl, h⟩; exact h
    | false =>
      rw [if_neg (by decide), if_neg (by decide)]
      constructor
      · intro h
        obtain ⟨v, rfl, hv⟩ := h.tok_inv e
        obtain ⟨v', rfl, h'⟩ := dr_rest.mp hv
        exact ⟨v', rfl, h'⟩
      · rintro ⟨v, rfl, h⟩
        exact .tok e (dr_rest.mpr ⟨v, rfl, h⟩)
theorem cm_rest {g : Gm} {r : List Sy} {w : List Int} : Cm g r w ↔ ∃ v, w = toks r ++ v ∧ Cm g (rest r) v := by
  constructor
  · intro h
    obtain ⟨l, hl⟩ := cm_dr h
    obtain ⟨v, e, hv⟩ := dr_rest.mp hl
    exact ⟨v, e, hv.cm⟩
  · rintro ⟨v, e, h⟩
    obtain ⟨l, hl⟩ := cm_dr h
    exact (dr_rest.mpr ⟨v, e, hl⟩).cm

/-- What becomes of a row by productions: a word, or what is wrong (2: one does not fit, 3: nonterminals are left). -/
def play (ps : List Pr) : List Int → List Sy → List Int × Nat
  | [], row => match rest row with
    | [] => (toks row, 0)
    | _ :: _ => ([], 3)
  | i :: l, row => match rest row with
    | [] => ([], 2)
    | s :: r => match (if 0 ≤ i then ps[i.toNat]? else none) with
      | none => ([], 2)
      | some p => if p.left = s.n then (if (play ps l (p.right ++ r)).2 = 0 then (toks row ++ (play ps l (p.right ++ r)).1, 0) else ([], (play ps l (p.right ++ r)).2)) else ([], 2)
theorem play_dr {ps : List Pr} : ∀ {l : List Int} {row : List Sy} {w : List Int}, play ps l row = (w, 0) ↔ ∃ m : List Nat, l = m.map (fun (i : Nat) => (i : Int)) ∧ Dr ps m row w
  | [], row, w => by
    unfold play
    cases e : rest row with
    | nil =>
      show (toks row, 0) = (w, 0) ↔ _
      constructor
      · intro h
        injection h with h _
        refine ⟨[], rfl, dr_rest.mpr ⟨[], by rw [← h]; simp, by rw [e]; exact .nil⟩⟩
      · rintro ⟨m, hm, h⟩
        have hm : m = [] := by cases m with
          | nil => rfl
          | cons x m => exact absurd hm (by simp)
        subst hm
        obtain ⟨v, rfl, hv⟩ := dr_rest.mp h
        rw [e] at hv
        rw [hv.nil_inv.2]; simp
    | cons s r =>
      show (([], 3) : List Int × Nat) = (w, 0) ↔ _
      constructor
      · intro h; injection h with _ h; exact absurd h (by decide)
      · rintro ⟨m, hm, h⟩
        have hm : m = [] := by cases m with
          | nil => rfl
          | cons x m => exact absurd hm (by simp)
        subst hm
        obtain ⟨v, rfl, hv⟩ := dr_rest.mp h
        rw [e] at hv
        obtain ⟨i, m, p, h1, _⟩ := hv.non_inv (rest_head e)
        exact absurd h1 (by simp)
  | i :: l, row, w => by
    unfold play
    cases e : rest row with
    | nil =>
      show (([], 2) : List Int × Nat) = (w, 0) ↔ _
      constructor
      · intro h; injection h with _ h; exact absurd h (by decide)
      · rintro ⟨m, hm, h⟩
        obtain ⟨v, rfl, hv⟩ := dr_rest.mp h
        rw [e] at hv
        rw [hv.nil_inv.1] at hm
        exact absurd hm (by simp)
    | cons s r =>
      have hs := rest_head e
      show (match (if 0 ≤ i then ps[i.toNat]? else none) with
        | none => (([], 2) : List Int × Nat)
        | some p => if p.left = s.n then (if (play ps l (p.right ++ r)).2 = 0 then (toks row ++ (play ps l (p.right ++ r)).1, 0) else ([], (play ps l (p.right ++ r)).2)) else ([], 2)) = (w, 0) ↔ _
      have bad : (([], 2) : List Int × Nat) = (w, 0) ↔ False := ⟨fun h => by injection h with _ h; exact absurd h (by decide), False.elim⟩
      cases e2 : (if 0 ≤ i then ps[i.toNat]? else none) with
      | none =>
        show (([], 2) : List Int × Nat) = (w, 0) ↔ _
        rw [bad, false_iff]
        rintro ⟨m, hm, h⟩
        obtain ⟨v, rfl, hv⟩ := dr_rest.mp h
        rw [e] at hv
        obtain ⟨i', m', p', rfl, h2, _⟩ := hv.non_inv hs
        injection hm with h3 _
        have h3 : i = (i' : Int) := h3
        rw [if_pos (by omega), h3, Int.toNat_natCast, h2] at e2
        exact absurd e2 (by simp)
      | some p =>
        have h0 : 0 ≤ i := by
          rcases Int.lt_or_le i 0 with h0 | h0
          · rw [if_neg (by omega)] at e2; exact absurd e2 (by simp)
          · exact h0
        rw [if_pos h0] at e2
        show (if p.left = s.n then (if (play ps l (p.right ++ r)).2 = 0 then (toks row ++ (play ps l (p.right ++ r)).1, 0) else ([], (play ps l (p.right ++ r)).2)) else ([], 2)) = (w, 0) ↔ _
        by_cases hl : p.left = s.n
        · rw [if_pos hl]
          constructor
          · intro h
            by_cases h1 : (play ps l (p.right ++ r)).2 = 0
            · rw [if_pos h1] at h
              injection h with h _
              obtain ⟨m, hm, hd⟩ := (play_dr (l := l) (row := p.right ++ r) (w := (play ps l (p.right ++ r)).1)).mp (by rw [← h1])
              refine ⟨i.toNat :: m, ?_, dr_rest.mpr ⟨_, h.symm, by rw [e]; exact .non hs e2 hl hd⟩⟩
              show i :: l = ((i.toNat : Nat) : Int) :: _
              rw [Int.toNat_of_nonneg h0, hm]
            · rw [if_neg h1] at h
              injection h with _ h
              exact absurd h h1
          · rintro ⟨m, hm, h⟩
            obtain ⟨v, rfl, hv⟩ := dr_rest.mp h
            rw [e] at hv
            obtain ⟨i', m', p', rfl, h2, h3, h4⟩ := hv.non_inv hs
            injection hm with h5 h6
            have h5 : i = (i' : Int) := h5
            rw [h5, Int.toNat_natCast, h2] at e2
            injection e2 with e2
            subst e2
            have := play_dr.mpr ⟨m', h6, h4⟩
            rw [this, if_pos rfl]
        · rw [if_neg hl, bad, false_iff]
          rintro ⟨m, hm, h⟩
          obtain ⟨v, rfl, hv⟩ := dr_rest.mp h
          rw [e] at hv
          obtain ⟨i', m', p', rfl, h2, h3, _⟩ := hv.non_inv hs
          injection hm with h5 _
          have h5 : i = (i' : Int) := h5
          rw [h5, Int.toNat_natCast, h2] at e2
          injection e2 with e2
          subst e2
          exact hl h3

/-- Which of two stands ahead. -/
def less : List Int → List Int → Bool
  | [], [] => false
  | [], _ :: _ => true
  | _ :: _, [] => false
  | a :: l, b :: m => if a = b then less l m else decide (a < b)
theorem less_irrefl : ∀ l, less l l = false
  | [] => rfl
  | a :: l => by unfold less; rw [if_pos rfl]; exact less_irrefl l
theorem less_asymm : ∀ l m, less l m = true → less m l = false
  | [], [], h => absurd h (by simp [less])
  | [], _ :: _, _ => rfl
  | _ :: _, [], h => absurd h (by simp [less])
  | a :: l, b :: m, h => by
    unfold less at h ⊢
    by_cases e : a = b
    · rw [if_pos e] at h
      rw [if_pos e.symm]
      exact less_asymm l m h
    · rw [if_neg e] at h
      rw [if_neg (fun x => e x.symm)]
      have := of_decide_eq_true h
      exact decide_eq_false (by omega)
theorem less_total : ∀ l m, l ≠ m → less l m = false → less m l = true
  | [], [], h, _ => absurd rfl h
  | [], _ :: _, _, h => absurd h (by simp [less])
  | _ :: _, [], _, _ => rfl
  | a :: l, b :: m, h, h2 => by
    unfold less at h2 ⊢
    by_cases e : a = b
    · rw [if_pos e] at h2
      rw [if_pos e.symm]
      exact less_total l m (fun x => h (by rw [e, x])) h2
    · rw [if_neg e] at h2
      rw [if_neg (fun x => e x.symm)]
      have := of_decide_eq_false h2
      exact decide_eq_true (by omega)

/-- The next production of a row, by a choice: a derivation that goes by it at each step. -/
inductive By (ps : List Pr) (pick : Sy → List Sy → List Int → Option Nat) : List Nat → List Sy → List Int → Prop
  | nil : By ps pick [] [] []
  | tok {l : List Nat} {s : Sy} {row : List Sy} {w : List Int} : s.non = false → By ps pick l row w → By ps pick l (s :: row) (s.n :: w)
  | non {l : List Nat} {s : Sy} {row : List Sy} {w : List Int} {i : Nat} {p : Pr} : s.non = true → pick s row w = some i → ps[i]? = some p → p.left = s.n → By ps pick l (p.right ++ row) w → By ps pick (i :: l) (s :: row) w
theorem By.dr {ps : List Pr} {pick : Sy → List Sy → List Int → Option Nat} {l : List Nat} {r : List Sy} {w : List Int} (h : By ps pick l r w) : Dr ps l r w := by
  induction h with
  | nil => exact .nil
  | tok hs _ ih => exact .tok hs ih
  | non hs _ hi hl _ ih => exact .non hs hi hl ih
def ints (l : List Nat) : List Int := l.map (fun (i : Nat) => (i : Int))
theorem ints_cons (i : Nat) (l : List Nat) : ints (i :: l) = (i : Int) :: ints l := rfl
/-- No derivation stands ahead of the one that takes the least production by which the word may still come. -/
theorem By.least {ps : List Pr} {pick : Sy → List Sy → List Int → Option Nat} {l : List Nat} {r : List Sy} {w : List Int} (h : By ps pick l r w)
    (hp : ∀ s row w i j p m, pick s row w = some i → ps[j]? = some p → p.left = s.n → Dr ps m (p.right ++ row) w → i ≤ j) : ∀ {m : List Nat}, Dr ps m r w → less (ints m) (ints l) = false := by
  induction h with
  | nil => intro m hm; rw [hm.nil_inv.1]; rfl
  | tok hs _ ih =>
    intro m hm
    obtain ⟨v, e, hm⟩ := hm.tok_inv hs
    injection e with _ e
    subst e
    exact ih hm
  | @non l s row w i p hs hpk hi hl _ ih =>
    intro m hm
    obtain ⟨j, m', q, rfl, h2, h3, h4⟩ := hm.non_inv hs
    have hij := hp s row w i j q m' hpk h2 h3 h4
    rw [ints_cons, ints_cons]
    unfold less
    by_cases e : j = i
    · subst e
      rw [if_pos rfl]
      rw [hi] at h2
      injection h2 with h2
      subst h2
      exact ih h4
    · rw [if_neg (by omega)]
      exact decide_eq_false (by omega)
/-- And none behind the one that takes the greatest. -/
theorem By.greatest {ps : List Pr} {pick : Sy → List Sy → List Int → Option Nat} {l : List Nat} {r : List Sy} {w : List Int} (h : By ps pick l r w)
    (hp : ∀ s row w i j p m, pick s row w = some i → ps[j]? = some p → p.left = s.n → Dr ps m (p.right ++ row) w → j ≤ i) : ∀ {m : List Nat}, Dr ps m r w → less (ints l) (ints m) = false := by
  induction h with
  | nil => intro m hm; rw [hm.nil_inv.1]; rfl
  | tok hs _ ih =>
    intro m hm
    obtain ⟨v, e, hm⟩ := hm.tok_inv hs
    injection e with _ e
    subst e
    exact ih hm
  | @non l s row w i p hs hpk hi hl _ ih =>
    intro m hm
    obtain ⟨j, m', q, rfl, h2, h3, h4⟩ := hm.non_inv hs
    have hij := hp s row w i j q m' hpk h2 h3 h4
    rw [ints_cons, ints_cons]
    unfold less
    by_cases e : i = j
    · subst e
      rw [if_pos rfl]
      rw [hi] at h2
      injection h2 with h2
      subst h2
      exact ih h4
    · rw [if_neg (by omega)]
      exact decide_eq_false (by omega)
end Go.Proofs.Ytpblamiiggglaaa.Dv
