/- Plain facts on the reference's way of filling a word's sets: an item comes into a set in order, once; over and over, till nothing is new. No program is named here. -/
import Derived.Test.YtckckejgocbkkaaChA
namespace Go.Proofs.Ytckckejgocbkkaa.Ch
open Gr (Sy Pr Gm okSy okPr Ok)

/-- An item put into a row in order, once; is it new? -/
def insI (x : Im) : List Im → List Im
  | [] => [x]
  | y :: l => if lt y x then y :: insI x l else if y = x then y :: l else x :: y :: l
def newI (x : Im) : List Im → Bool
  | [] => true
  | y :: l => if lt y x then newI x l else !decide (y = x)
theorem insI_lt {x y : Im} {l : List Im} (h : lt y x) : insI x (y :: l) = y :: insI x l := if_pos h
theorem newI_lt {x y : Im} {l : List Im} (h : lt y x) : newI x (y :: l) = newI x l := if_pos h
theorem insI_eq (x : Im) (l : List Im) : insI x (x :: l) = x :: l := by
  show (if lt x x then _ else if x = x then _ else _) = _
  rw [if_neg (lt_irrefl x), if_pos rfl]
theorem newI_eq (x : Im) (l : List Im) : newI x (x :: l) = false := by
  show (if lt x x then _ else _) = _
  rw [if_neg (lt_irrefl x)]; simp
theorem insI_gt {x y : Im} {l : List Im} (h : ¬ lt y x) (e : y ≠ x) : insI x (y :: l) = x :: y :: l := by
  show (if lt y x then _ else if y = x then _ else _) = _
  rw [if_neg h, if_neg e]
theorem newI_gt {x y : Im} {l : List Im} (h : ¬ lt y x) (e : y ≠ x) : newI x (y :: l) = true := by
  show (if lt y x then _ else _) = _
  rw [if_neg h]; simp [e]
theorem mem_insI {x z : Im} : ∀ {l : List Im}, z ∈ insI x l ↔ z = x ∨ z ∈ l
  | [] => by simp [insI]
  | y :: l => by
    by_cases h : lt y x
    · rw [insI_lt h, List.mem_cons, mem_insI, List.mem_cons]
      constructor
      · rintro (h | h | h)
        · exact .inr (.inl h)
        · exact .inl h
        · exact .inr (.inr h)
      · rintro (h | h | h)
        · exact .inr (.inl h)
        · exact .inl h
        · exact .inr (.inr h)
    · by_cases e : y = x
      · subst e
        rw [insI_eq, List.mem_cons]
        constructor
        · rintro (h | h)
          · exact .inl h
          · exact .inr (.inr h)
        · rintro (h | h | h)
          · exact .inl h
          · exact .inl h
          · exact .inr h
      · rw [insI_gt h e, List.mem_cons]
theorem insI_stay {x : Im} : ∀ {l : List Im}, newI x l = false → insI x l = l ∧ x ∈ l
  | [], h => by cases h
  | y :: l, h => by
    by_cases h1 : lt y x
    · rw [newI_lt h1] at h
      obtain ⟨h2, h3⟩ := insI_stay h
      rw [insI_lt h1, h2]
      exact ⟨rfl, List.mem_cons_of_mem _ h3⟩
    · by_cases e : y = x
      · subst e; rw [insI_eq]; exact ⟨rfl, List.mem_cons_self ..⟩
      · rw [newI_gt h1 e] at h; cases h
theorem insI_len {x : Im} : ∀ {l : List Im}, newI x l = true → (insI x l).length = l.length + 1
  | [], _ => rfl
  | y :: l, h => by
    by_cases h1 : lt y x
    · rw [newI_lt h1] at h
      rw [insI_lt h1, List.length_cons, insI_len h, List.length_cons]
    · by_cases e : y = x
      · subst e; rw [newI_eq] at h; cases h
      · rw [insI_gt h1 e]; rfl
theorem insI_le {x : Im} (l : List Im) : (insI x l).length ≤ l.length + 1 := by
  cases h : newI x l with
  | true => rw [insI_len h]; exact Nat.le_refl _
  | false => rw [(insI_stay h).1]; omega
theorem insI_inc {x : Im} : ∀ {l : List Im}, Inc l → Inc (insI x l)
  | [], _ => List.pairwise_singleton ..
  | y :: l, h => by
    have hp := List.pairwise_cons.1 h
    by_cases h1 : lt y x
    · rw [insI_lt h1]
      refine List.pairwise_cons.2 ⟨fun z hz => ?_, insI_inc hp.2⟩
      rcases mem_insI.1 hz with e | e
      · rw [e]; exact h1
      · exact hp.1 z e
    · by_cases e : y = x
      · subst e; rw [insI_eq]; exact h
      · rw [insI_gt h1 e]
        have h2 : lt x y := by
          rcases lt_total e with h3 | h3
          · exact absurd h3 h1
          · exact h3
        refine List.pairwise_cons.2 ⟨fun z hz => ?_, h⟩
        rcases List.mem_cons.1 hz with e | e
        · rw [e]; exact h2
        · exact lt_trans h2 (hp.1 z e)
/-- How far add has looked. -/
def Looked (x : Im) (l : List Im) (k : Nat) : Prop := insI x l = l.take k ++ insI x (l.drop k) ∧ newI x l = newI x (l.drop k)
theorem looked_zero (x : Im) (l : List Im) : Looked x l 0 := ⟨rfl, rfl⟩
theorem Looked.on {x : Im} {l : List Im} {k : Nat} (h : Looked x l k) (hk : k < l.length) (hl : lt l[k] x) : Looked x l (k + 1) := by
  obtain ⟨h1, h2⟩ := h
  rw [List.drop_eq_getElem_cons hk] at h1 h2
  rw [insI_lt hl] at h1
  rw [newI_lt hl] at h2
  refine ⟨?_, h2⟩
  rw [h1, List.take_succ_eq_append_getElem hk, List.append_assoc]; rfl
theorem Looked.same {x : Im} {l : List Im} {k : Nat} (h : Looked x l k) (hk : k < l.length) (hl : l[k] = x) : insI x l = l ∧ newI x l = false := by
  obtain ⟨h1, h2⟩ := h
  rw [List.drop_eq_getElem_cons hk, hl, newI_eq] at h2
  exact ⟨(insI_stay h2).1, h2⟩
theorem Looked.new {x : Im} {l : List Im} {k : Nat} (h : Looked x l k) (hk : ∀ hk : k < l.length, ¬ lt l[k] x ∧ l[k] ≠ x) : insI x l = l.take k ++ [x] ++ l.drop k ∧ newI x l = true := by
  obtain ⟨h1, h2⟩ := h
  rcases Nat.lt_or_ge k l.length with h3 | h3
  · obtain ⟨h4, h5⟩ := hk h3
    have hd := List.drop_eq_getElem_cons h3
    rw [hd, insI_gt h4 h5, ← hd] at h1
    rw [hd, newI_gt h4 h5] at h2
    refine ⟨?_, h2⟩
    rw [h1, List.append_assoc]; rfl
  · rw [List.drop_of_length_le h3] at h1 h2 ⊢
    refine ⟨?_, h2⟩
    rw [h1, List.append_nil]; rfl

/-- Which items must be there with an item of a place, and at which place. -/
def outI (g : Gm) (w : List Int) (S : Nat → List Im) (a : Nat) (x : Im) : List Im × Nat := match symAt g x with
  | none => (lets g (leftOf g x) (S x.frm), a)
  | some s => if s.non then (begs g a s.n, a) else if w[a]? = some s.n then ([behind x], a + 1) else ([], a)
theorem outI_sound {g : Gm} {w : List Int} {S : Nat → List Im} (hS : ∀ b y, y ∈ S b → It g w b y) {a : Nat} {x : Im} (hx : It g w a x) : ∀ y ∈ (outI g w S a x).1, It g w (outI g w S a x).2 y := by
  intro y hy
  unfold outI at hy ⊢
  cases hs : symAt g x with
  | none =>
    rw [hs] at hy
    dsimp only at hy ⊢
    obtain ⟨z, h1, h2, rfl⟩ := mem_lets.1 hy
    exact hx.ended hs (hS _ _ h1) h2
  | some s =>
    rw [hs] at hy
    dsimp only at hy ⊢
    obtain ⟨p, hp, hps⟩ := symAt_iff.1 hs
    by_cases hn : s.non = true
    · rw [if_pos hn] at hy ⊢
      obtain ⟨j, q, rfl, h1, h2⟩ := mem_begs.1 hy
      exact .ahead hx hp hps hn h1 h2
    · rw [if_neg hn] at hy ⊢
      by_cases hw : w[a]? = some s.n
      · rw [if_pos hw] at hy ⊢
        rw [List.mem_singleton.1 hy]
        exact .over hx hp hps (by simpa using hn) hw
      · rw [if_neg hw] at hy; cases hy
theorem outI_place {g : Gm} {w : List Int} {S : Nat → List Im} {a : Nat} {x : Im} (ha : a ≤ w.length) : (outI g w S a x).2 ≤ w.length := by
  unfold outI
  cases hs : symAt g x with
  | none => exact ha
  | some s =>
    dsimp only
    split
    · exact ha
    · split
      · rename_i h; exact lt_of_get h
      · exact ha
/-- Sets in which all that must be there is there have all items. -/
theorem outI_has {g : Gm} {w : List Int} {S : Nat → List Im} (h0 : ∀ x ∈ begs g 0 g.start, x ∈ S 0) (h : ∀ a, a ≤ w.length → ∀ x ∈ S a, ∀ y ∈ (outI g w S a x).1, y ∈ S (outI g w S a x).2) : Has g w w.length fun b x => x ∈ S b := by
  refine ⟨fun i p h1 h2 => h0 _ (mem_begs.2 ⟨i, p, rfl, h1, h2⟩), ?_, ?_, ?_⟩
  · intro a x p s j q ha hx h1 h2 h3 h4 h5
    have h6 := h a ha x hx
    have hs : symAt g x = some s := symAt_iff.2 ⟨p, h1, h2⟩
    unfold outI at h6
    rw [hs] at h6
    dsimp only at h6
    rw [if_pos h3] at h6
    exact h6 _ (mem_begs.2 ⟨j, q, rfl, h4, h5⟩)
  · intro a x p s ha hx h1 h2 h3 h4
    have h6 := h a (by omega) x hx
    have hs : symAt g x = some s := symAt_iff.2 ⟨p, h1, h2⟩
    unfold outI at h6
    rw [hs] at h6
    dsimp only at h6
    rw [if_neg (by rw [h3]; simp), if_pos h4] at h6
    exact h6 _ (List.mem_singleton.2 rfl)
  · intro a x y p q s ha hx _ h1 h2 hy h3 h4 h5 h6
    have h7 := h a ha x hx
    have hs : symAt g x = none := (symAt_none h1 (Nat.le_of_eq h2)).2 h2
    unfold outI at h7
    rw [hs] at h7
    dsimp only at h7
    exact h7 _ (mem_lets.2 ⟨y, hy, wants_iff.2 ⟨s, symAt_iff.2 ⟨q, h3, h4⟩, h5, by rw [h6, leftOf_eq h1]⟩, rfl⟩)
/-- How many items there are in the sets of m places. -/
def tot : Nat → (Nat → List Im) → Nat
  | 0, _ => 0
  | m + 1, S => tot m S + (S m).length
theorem tot_upd (S : Nat → List Im) (p : Nat) (l : List Im) : ∀ m, (p < m → tot m (upd S p l) + (S p).length = tot m S + l.length) ∧ (m ≤ p → tot m (upd S p l) = tot m S)
  | 0 => ⟨fun h => absurd h (by omega), fun _ => rfl⟩
  | m + 1 => by
    obtain ⟨h1, h2⟩ := tot_upd S p l m
    constructor
    · intro h
      show tot m (upd S p l) + (upd S p l m).length + _ = tot m S + (S m).length + _
      by_cases e : p = m
      · subst e
        rw [h2 (Nat.le_refl _), upd_same]; omega
      · have := h1 (by omega)
        rw [upd_other _ _ (Ne.symm e)]; omega
    · intro h
      show tot m (upd S p l) + (upd S p l m).length = tot m S + (S m).length
      rw [h2 (by omega), upd_other _ _ (by omega)]
theorem tot_le {S : Nat → List Im} {N : Nat} : ∀ {m : Nat}, (∀ a, a < m → (S a).length ≤ N) → tot m S ≤ m * N
  | 0, _ => by simp [tot]
  | m + 1, h => by
    have h1 := tot_le (m := m) fun a ha => h a (by omega)
    have h2 := h m (by omega)
    show tot m S + (S m).length ≤ (m + 1) * N
    rw [Nat.add_mul, Nat.one_mul]; omega
/-- An item put into the set of a place. -/
def ins1 (S : Nat → List Im) (p : Nat) (x : Im) : Nat → List Im := upd S p (insI x (S p))
/-- In the middle of a round: from S0 on to S; has anything been new; if not: what has been looked at. -/
structure Rnd (g : Gm) (w : List Int) (m : Nat) (S0 S : Nat → List Im) (b : Bool) (P : Prop) : Prop where
  inc : ∀ a, Inc (S a)
  sound : ∀ a x, x ∈ S a → It g w a x
  start : ∀ x ∈ begs g 0 g.start, x ∈ S 0
  grown : b = true → tot m S0 < tot m S
  same : b = false → S = S0 ∧ P
theorem Rnd.le {g : Gm} {w : List Int} {m : Nat} {S0 S : Nat → List Im} {b : Bool} {P : Prop} (h : Rnd g w m S0 S b P) : tot m S0 ≤ tot m S := by
  cases b with
  | true => exact Nat.le_of_lt (h.grown rfl)
  | false => rw [(h.same rfl).1]; exact Nat.le_refl _
theorem Rnd.weak {g : Gm} {w : List Int} {m : Nat} {S0 S : Nat → List Im} {b : Bool} {P Q : Prop} (h : Rnd g w m S0 S b P) (hPQ : S = S0 → P → Q) : Rnd g w m S0 S b Q :=
  { h with same := fun e => ⟨(h.same e).1, hPQ (h.same e).1 (h.same e).2⟩ }
theorem Rnd.put {g : Gm} {w : List Int} {m : Nat} {S0 S : Nat → List Im} {b : Bool} {P : Prop} (h : Rnd g w m S0 S b P) {p : Nat} {x : Im} (hp : p < m) (hx : It g w p x) : Rnd g w m S0 (ins1 S p x) (b || newI x (S p)) (P ∧ x ∈ S0 p) := by
  refine ⟨fun a => ?_, fun a y hy => ?_, fun y hy => ?_, fun e => ?_, fun e => ?_⟩
  · unfold ins1
    by_cases e : a = p
    · subst e; rw [upd_same]; exact insI_inc (h.inc a)
    · rw [upd_other _ _ e]; exact h.inc a
  · unfold ins1 at hy
    by_cases e : a = p
    · subst e
      rw [upd_same] at hy
      rcases mem_insI.1 hy with e2 | e2
      · rw [e2]; exact hx
      · exact h.sound _ _ e2
    · rw [upd_other _ _ e] at hy; exact h.sound _ _ hy
  · have h1 := h.start y hy
    unfold ins1
    by_cases e : 0 = p
    · subst e; rw [upd_same]; exact mem_insI.2 (.inr h1)
    · rw [upd_other _ _ e]; exact h1
  · have ht := (tot_upd S p (insI x (S p)) m).1 hp
    have hle := h.le
    show _ < tot m (upd S p (insI x (S p)))
    cases hn : newI x (S p) with
    | true =>
      rw [insI_len hn] at ht
      omega
    | false =>
      rw [(insI_stay hn).1, upd_self]
      rw [hn, Bool.or_false] at e
      exact h.grown e
  · rw [Bool.or_eq_false_iff] at e
    obtain ⟨h1, h2⟩ := insI_stay e.2
    obtain ⟨h3, h4⟩ := h.same e.1
    refine ⟨?_, h4, h3 ▸ h2⟩
    unfold ins1
    rw [h1, upd_self, h3]
/-- All of a round has been looked at, and nothing was new: the sets are the word's. -/
theorem Rnd.done {g : Gm} {w : List Int} {m : Nat} {S0 S : Nat → List Im} (h : Rnd g w m S0 S false (∀ a, a ≤ w.length → ∀ x ∈ S0 a, ∀ y ∈ (outI g w S0 a x).1, y ∈ S0 (outI g w S0 a x).2)) : ∀ b, b ≤ w.length → Inc (S b) ∧ ∀ x, x ∈ S b ↔ It g w b x := by
  obtain ⟨e, hP⟩ := h.same rfl
  intro b hb
  refine ⟨h.inc b, fun x => ⟨h.sound b x, fun hx => ?_⟩⟩
  rw [← e] at hP
  exact It.least (S := fun b x => x ∈ S b) (outI_has h.start hP) hx hb
/-- A row of items put in, one behind the other. -/
def insAll (S : List Im) : List Im → List Im
  | [] => S
  | x :: l => insAll (insI x S) l
theorem insAll_snoc (x : Im) : ∀ (l S : List Im), insAll S (l ++ [x]) = insI x (insAll S l)
  | [], _ => rfl
  | _ :: l, _ => insAll_snoc x l _
theorem mem_insAll {z : Im} : ∀ {l S : List Im}, z ∈ insAll S l ↔ z ∈ l ∨ z ∈ S
  | [], _ => by simp [insAll]
  | x :: l, _ => by
    show z ∈ insAll (insI x _) l ↔ _
    rw [mem_insAll, mem_insI, List.mem_cons]
    constructor
    · rintro (h | h | h)
      · exact .inl (.inr h)
      · exact .inl (.inl h)
      · exact .inr h
    · rintro ((h | h) | h)
      · exact .inr (.inl h)
      · exact .inl h
      · exact .inr (.inr h)
theorem insAll_inc : ∀ {l S : List Im}, Inc S → Inc (insAll S l)
  | [], _, h => h
  | _ :: l, _, h => insAll_inc (l := l) (insI_inc h)
/-- The sets that a round begins with at first. -/
def S0of (l : List Im) : Nat → List Im := upd (fun _ => []) 0 (insAll [] l)
theorem s0_all (l : List Im) (x : Im) : S0of (l ++ [x]) = ins1 (S0of l) 0 x := by
  unfold S0of ins1
  rw [upd_same, insAll_snoc, upd_upd]
theorem Rnd.first {g : Gm} {w : List Int} {m : Nat} : Rnd g w m (S0of (begs g 0 g.start)) (S0of (begs g 0 g.start)) false True := by
  refine ⟨fun a => ?_, fun a y hy => ?_, fun y hy => ?_, fun e => (by cases e), fun _ => ⟨rfl, trivial⟩⟩
  · unfold S0of
    by_cases e : a = 0
    · subst e; rw [upd_same]; exact insAll_inc List.Pairwise.nil
    · rw [upd_other _ _ e]; exact List.Pairwise.nil
  · unfold S0of at hy
    by_cases e : a = 0
    · subst e
      rw [upd_same] at hy
      rcases mem_insAll.1 hy with h | h
      · obtain ⟨j, q, rfl, h1, h2⟩ := mem_begs.1 h
        exact .start h1 h2
      · cases h
    · rw [upd_other _ _ e] at hy; cases hy
  · unfold S0of
    rw [upd_same]
    exact mem_insAll.2 (.inl hy)
/-- A round is over, and another one begins. -/
theorem Rnd.again {g : Gm} {w : List Int} {m : Nat} {S0 S : Nat → List Im} {b : Bool} {P : Prop} (h : Rnd g w m S0 S b P) : Rnd g w m S S false True :=
  ⟨h.inc, h.sound, h.start, fun e => (by cases e), fun _ => ⟨rfl, trivial⟩⟩
end Go.Proofs.Ytckckejgocbkkaa.Ch
