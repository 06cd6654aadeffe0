/- Plain facts on what comes of symbols, and on tables that say which part of a word comes of which nonterminal. No program is named here. -/
import Derived.Test.YtgmnokmchjeflaaGMath
namespace Go.Proofs.Ytgmnokmchjeflaa.Cf
open Gr (Sy Pr Gm okSy okPr Ok)

/-- Which word comes of symbols, one behind the other. -/
inductive Cm (g : Gm) : List Sy → List Int → Prop
  | nil : Cm g [] []
  | tok {s : Sy} {l : List Sy} {w : List Int} : s.non = false → Cm g l w → Cm g (s :: l) (s.n :: w)
  | non {s : Sy} {l : List Sy} {u v : List Int} {p : Pr} : s.non = true → p ∈ g.prods → p.left = s.n → Cm g p.right u → Cm g l v → Cm g (s :: l) (u ++ v)

theorem Cm.append {g : Gm} {l : List Sy} {u : List Int} (h : Cm g l u) {m : List Sy} {v : List Int} (hm : Cm g m v) : Cm g (l ++ m) (u ++ v) := by
  induction h with
  | nil => exact hm
  | tok hs _ ih => exact .tok hs ih
  | non hs hp hl hr _ _ ih2 => rw [List.append_assoc]; exact .non hs hp hl hr ih2
theorem Cm.nil_inv {g : Gm} {w : List Int} (h : Cm g [] w) : w = [] := by cases h; rfl
theorem Cm.tok_inv {g : Gm} {s : Sy} {l : List Sy} {w : List Int} (h : Cm g (s :: l) w) (hs : s.non = false) : ∃ v, w = s.n :: v ∧ Cm g l v := by
  cases h with
  | tok _ h => exact ⟨_, rfl, h⟩
  | non h1 => rw [hs] at h1; exact absurd h1 (by decide)
theorem Cm.non_inv {g : Gm} {s : Sy} {l : List Sy} {w : List Int} (h : Cm g (s :: l) w) (hs : s.non = true) : ∃ p u v, w = u ++ v ∧ p ∈ g.prods ∧ p.left = s.n ∧ Cm g p.right u ∧ Cm g l v := by
  cases h with
  | tok h1 => rw [hs] at h1; exact absurd h1 (by decide)
  | non _ hp hl hr h => exact ⟨_, _, _, rfl, hp, hl, hr, h⟩
theorem Cm.split {g : Gm} : ∀ {l m : List Sy} {w : List Int}, Cm g (l ++ m) w → ∃ u v, w = u ++ v ∧ Cm g l u ∧ Cm g m v
  | [], _, w, h => ⟨[], w, rfl, .nil, h⟩
  | s :: l, m, w, h => by
    rw [List.cons_append] at h
    cases e : s.non with
    | false =>
      obtain ⟨v, rfl, hv⟩ := h.tok_inv e
      obtain ⟨u1, v1, rfl, h1, h2⟩ := Cm.split hv
      exact ⟨s.n :: u1, v1, rfl, .tok e h1, h2⟩
    | true =>
      obtain ⟨p, u, v, rfl, hp, hl, hr, hv⟩ := h.non_inv e
      obtain ⟨u1, v1, rfl, h1, h2⟩ := Cm.split hv
      exact ⟨u ++ u1, v1, by rw [List.append_assoc], .non e hp hl hr h1, h2⟩
theorem Cm.one {g : Gm} {n : Int} {w : List Int} : Cm g [⟨true, n⟩] w ↔ ∃ p ∈ g.prods, p.left = n ∧ Cm g p.right w := by
  constructor
  · intro h
    obtain ⟨p, u, v, rfl, hp, hl, hr, hv⟩ := h.non_inv rfl
    rw [hv.nil_inv, List.append_nil]
    exact ⟨p, hp, hl, hr⟩
  · rintro ⟨p, hp, hl, hr⟩
    have := Cm.non (s := ⟨true, n⟩) rfl hp hl hr .nil
    rwa [List.append_nil] at this
theorem Cm.cons {g : Gm} {s : Sy} {l : List Sy} {w : List Int} : Cm g (s :: l) w ↔ ∃ u v, w = u ++ v ∧ Cm g [s] u ∧ Cm g l v := by
  constructor
  · intro h; exact Cm.split (l := [s]) h
  · rintro ⟨u, v, rfl, h1, h2⟩; exact h1.append h2
theorem Cm.token {g : Gm} {n : Int} {w : List Int} : Cm g [⟨false, n⟩] w ↔ w = [n] := by
  constructor
  · intro h
    obtain ⟨v, rfl, hv⟩ := h.tok_inv rfl
    rw [hv.nil_inv]
  · rintro rfl; exact .tok (s := ⟨false, n⟩) rfl .nil

/-- The part of a word from a place to a place. -/
def part (w : List Int) (a b : Nat) : List Int := (w.take b).drop a
theorem part_self (w : List Int) (a : Nat) : part w a a = [] := by
  unfold part
  apply List.drop_eq_nil_of_le
  simp; omega
theorem part_length {w : List Int} {a b : Nat} (hb : b ≤ w.length) : (part w a b).length = b - a := by
  unfold part; rw [List.length_drop, List.length_take, Nat.min_eq_left hb]
theorem part_append (w : List Int) {a c b : Nat} (h1 : a ≤ c) (h2 : c ≤ b) : part w a c ++ part w c b = part w a b := by
  apply List.ext_getElem?
  intro i
  unfold part
  rw [List.getElem?_append]
  simp only [List.length_drop, List.length_take, List.getElem?_drop, List.getElem?_take]
  by_cases hw : c ≤ w.length
  · rw [Nat.min_eq_left hw]
    split
    · rw [if_pos (by omega), if_pos (by omega)]
    · rw [show c + (i - (c - a)) = a + i by omega]
  · split
    · split <;> split <;> first | rfl | omega
    · have e1 : w[c + (i - (min c w.length - a))]? = none := List.getElem?_eq_none (by omega)
      have e2 : w[a + i]? = none := List.getElem?_eq_none (by omega)
      rw [e1, e2]
      simp
theorem part_all (w : List Int) : part w 0 w.length = w := by unfold part; simp
theorem part_zero (w : List Int) (b : Nat) : part w 0 b = w.take b := rfl
theorem part_one {w : List Int} {a : Nat} {x : Int} (h : w[a]? = some x) : part w a (a + 1) = [x] := by
  unfold part
  have hl : a < w.length := by
    rcases Nat.lt_or_ge a w.length with h1 | h1
    · exact h1
    · rw [List.getElem?_eq_none h1] at h; exact absurd h (by simp)
  rw [List.take_add_one, h]
  simp [Nat.min_eq_left (Nat.le_of_lt hl)]
theorem part_cons {w : List Int} {a b : Nat} {x : Int} {r : List Int} (hb : b ≤ w.length) (h : part w a b = x :: r) : w[a]? = some x ∧ part w (a + 1) b = r ∧ a < b := by
  have hab : a < b := by
    rcases Nat.lt_or_ge a b with h1 | h1
    · exact h1
    · have : (part w a b).length = 0 := by rw [part_length hb]; omega
      rw [h] at this; simp at this
  have e : w[a]? = some w[a] := List.getElem?_eq_getElem (by omega)
  have e2 := part_append w (a := a) (c := a + 1) (b := b) (by omega) (by omega)
  rw [part_one e, h] at e2
  have e3 : [w[a]] ++ part w (a + 1) b = w[a] :: part w (a + 1) b := rfl
  rw [e3] at e2
  injection e2 with e4 e5
  rw [e, e4]
  exact ⟨rfl, e5, hab⟩
/-- A part that falls in two does so at a place. -/
theorem part_split {w : List Int} {a b : Nat} {u v : List Int} (hab : a ≤ b) (hb : b ≤ w.length) (h : part w a b = u ++ v) : ∃ c, a ≤ c ∧ c ≤ b ∧ part w a c = u ∧ part w c b = v := by
  have hl : (part w a b).length = u.length + v.length := by rw [h, List.length_append]
  rw [part_length hb] at hl
  have e := part_append w (a := a) (c := a + u.length) (b := b) (by omega) (by omega)
  rw [h] at e
  have e1 : (part w a (a + u.length)).length = u.length := by rw [part_length (by omega)]; omega
  have := List.append_inj e e1
  exact ⟨a + u.length, by omega, by omega, this.1, this.2⟩

/-- A table: does this nonterminal mean the part from here to there? -/
abbrev Tb := Nat → Nat → Nat → Bool
/-- What a symbol means, by a table. -/
def sym (T : Tb) (w : List Int) (s : Sy) (a b : Nat) : Bool := if s.non then T s.n.toNat a b else decide (w[a]? = some s.n ∧ b = a + 1)
/-- What symbols mean, one behind the other. -/
def Ch (T : Tb) (w : List Int) : List Sy → Nat → Nat → Prop
  | [], a, b => a = b
  | s :: l, a, b => ∃ c, a ≤ c ∧ c ≤ w.length ∧ sym T w s a c = true ∧ Ch T w l c b
theorem Ch.append {T : Tb} {w : List Int} : ∀ {l m : List Sy} {a b : Nat}, Ch T w (l ++ m) a b ↔ ∃ c, Ch T w l a c ∧ Ch T w m c b
  | [], m, a, b => by
    constructor
    · intro h; exact ⟨a, rfl, h⟩
    · rintro ⟨c, h1, h2⟩; have h1 : a = c := h1; subst h1; exact h2
  | s :: l, m, a, b => by
    constructor
    · rintro ⟨c, h1, h2, h3, h4⟩
      obtain ⟨d, h5, h6⟩ := Ch.append.mp h4
      exact ⟨d, ⟨c, h1, h2, h3, h5⟩, h6⟩
    · rintro ⟨d, ⟨c, h1, h2, h3, h5⟩, h6⟩
      exact ⟨c, h1, h2, h3, Ch.append.mpr ⟨d, h5, h6⟩⟩
theorem Ch.le {T : Tb} {w : List Int} : ∀ {l : List Sy} {a b : Nat}, Ch T w l a b → a ≤ b
  | [], a, b, h => by have h : a = b := h; omega
  | s :: l, a, b, ⟨c, h1, _, _, h4⟩ => by have := Ch.le h4; omega
theorem Ch.le_len {T : Tb} {w : List Int} : ∀ {l : List Sy} {a b : Nat}, a ≤ w.length → Ch T w l a b → b ≤ w.length
  | [], a, b, h0, h => by have h : a = b := h; omega
  | s :: l, a, b, _, ⟨c, _, h2, _, h4⟩ => Ch.le_len h2 h4
theorem sym_mono {T U : Tb} {w : List Int} {s : Sy} {a b : Nat} (h : ∀ n a b, T n a b = true → U n a b = true) (hs : sym T w s a b = true) : sym U w s a b = true := by
  unfold sym at hs ⊢
  split
  · rename_i e; rw [if_pos e] at hs; exact h _ _ _ hs
  · rename_i e; rw [if_neg e] at hs; exact hs
theorem Ch.mono {T U : Tb} {w : List Int} (h : ∀ n a b, T n a b = true → U n a b = true) : ∀ {l : List Sy} {a b : Nat}, Ch T w l a b → Ch U w l a b
  | [], _, _, hc => hc
  | _ :: _, _, _, ⟨c, h1, h2, h3, h4⟩ => ⟨c, h1, h2, sym_mono h h3, Ch.mono h h4⟩

/-- All that the table says comes. -/
def Sound (g : Gm) (w : List Int) (T : Tb) : Prop := ∀ n a b, T n a b = true → a ≤ b ∧ b ≤ w.length ∧ Cm g [⟨true, (n : Int)⟩] (part w a b)
/-- What a production means by the table, the table says. -/
def Closed (g : Gm) (w : List Int) (T : Tb) : Prop := ∀ p ∈ g.prods, ∀ a b, a ≤ w.length → Ch T w p.right a b → T p.left.toNat a b = true
/-- The symbols of a production of a grammar that may be have numbers from 0 on. -/
def Pos (l : List Sy) : Prop := ∀ s ∈ l, 0 ≤ s.n

theorem sound_sym {g : Gm} {w : List Int} {T : Tb} (hT : Sound g w T) {s : Sy} (hs : 0 ≤ s.n) {a b : Nat} (h : sym T w s a b = true) : a ≤ b ∧ b ≤ w.length ∧ Cm g [s] (part w a b) := by
  obtain ⟨k, n⟩ := s
  have hs : 0 ≤ n := hs
  have en : ((n.toNat : Nat) : Int) = n := Int.toNat_of_nonneg hs
  unfold sym at h
  cases k with
  | true =>
    have h : T n.toNat a b = true := h
    have := hT _ _ _ h
    rw [en] at this
    exact this
  | false =>
    have h : decide (w[a]? = some n ∧ b = a + 1) = true := h
    obtain ⟨h1, rfl⟩ := of_decide_eq_true h
    have hl : a < w.length := by
      rcases Nat.lt_or_ge a w.length with h2 | h2
      · exact h2
      · rw [List.getElem?_eq_none h2] at h1; exact absurd h1 (by simp)
    exact ⟨by omega, by omega, by rw [part_one h1]; exact Cm.token.mpr rfl⟩
theorem sound_ch {g : Gm} {w : List Int} {T : Tb} (hT : Sound g w T) : ∀ {l : List Sy}, Pos l → ∀ {a b : Nat}, a ≤ w.length → Ch T w l a b → Cm g l (part w a b)
  | [], _, a, b, _, h => by
    have h : a = b := h
    subst h
    rw [part_self]; exact .nil
  | s :: l, hp, a, b, ha, ⟨c, h1, h2, h3, h4⟩ => by
    have e := (sound_sym hT (hp s (List.mem_cons_self ..)) h3).2.2
    have r := sound_ch hT (fun x hx => hp x (List.mem_cons_of_mem _ hx)) h2 h4
    rw [← part_append w h1 h4.le]
    exact e.append r
/-- A table that is sound stays so when what a production means is put into it. -/
theorem sound_put {g : Gm} {w : List Int} {T : Tb} (hT : Sound g w T) {p : Pr} (hp : p ∈ g.prods) (h0 : 0 ≤ p.left) (hr : Pos p.right) {a b : Nat} (ha : a ≤ w.length) (h : Ch T w p.right a b) :
    a ≤ b ∧ b ≤ w.length ∧ Cm g [⟨true, ((p.left.toNat : Nat) : Int)⟩] (part w a b) := by
  refine ⟨h.le, h.le_len ha, ?_⟩
  rw [Int.toNat_of_nonneg h0]
  exact Cm.one.mpr ⟨p, hp, rfl, sound_ch hT hr ha h⟩
/-- A closed table says all that comes. -/
theorem closed_all {g : Gm} {w : List Int} {T : Tb} (hT : Closed g w T) {l : List Sy} {u : List Int} (h : Cm g l u) : ∀ {a b : Nat}, a ≤ b → b ≤ w.length → part w a b = u → Ch T w l a b := by
  induction h with
  | nil =>
    intro a b hab hb e
    have := part_length (a := a) hb
    rw [e] at this
    have : b - a = 0 := this.symm
    show a = b
    omega
  | @tok s l v hs _ ih =>
    intro a b hab hb e
    obtain ⟨h1, h2, h3⟩ := part_cons hb e
    refine ⟨a + 1, by omega, by omega, ?_, ih (by omega) hb h2⟩
    unfold sym
    rw [if_neg (by rw [hs]; decide)]
    exact decide_eq_true ⟨h1, rfl⟩
  | @non s l u v p hs hp hl hr _ ih1 ih2 =>
    intro a b hab hb e
    obtain ⟨c, h1, h2, h3, h4⟩ := part_split hab hb e
    refine ⟨c, h1, by omega, ?_, ih2 h2 hb h4⟩
    unfold sym
    rw [if_pos hs, ← hl]
    exact hT p hp a c (by omega) (ih1 h1 (by omega) h3)
theorem table {g : Gm} {w : List Int} {T : Tb} (hs : Sound g w T) (hc : Closed g w T) (n : Nat) {a b : Nat} (hab : a ≤ b) (hb : b ≤ w.length) : T n a b = true ↔ Cm g [⟨true, (n : Int)⟩] (part w a b) := by
  constructor
  · intro h; exact (hs n a b h).2.2
  · intro h
    obtain ⟨c, h1, h2, h3, h4⟩ := closed_all hc h hab hb rfl
    have h4 : c = b := h4
    subst h4
    unfold sym at h3
    have e : (((n : Nat) : Int)).toNat = n := Int.toNat_natCast n
    rw [if_pos rfl] at h3
    have h3 : T ((n : Int)).toNat a c = true := h3
    rwa [e] at h3
theorem table_ch {g : Gm} {w : List Int} {T : Tb} (hs : Sound g w T) (hc : Closed g w T) {l : List Sy} (hl : Pos l) {a b : Nat} (hab : a ≤ b) (hb : b ≤ w.length) : Ch T w l a b ↔ Cm g l (part w a b) :=
  ⟨fun h => sound_ch hs hl (by omega) h, fun h => closed_all hc h hab hb rfl⟩

theorem ok_pos {g : Gm} (hg : Ok g) {p : Pr} (hp : p ∈ g.prods) : 0 ≤ p.left ∧ Pos p.right := by
  obtain ⟨_, _, _, _, _, _, _, h⟩ := hg
  exact ⟨(h p hp).1, fun s hs => ((h p hp).2.2.2 s hs).1⟩

/-- From which places symbols lead to which, place by place: a row of bools for the places so far. -/
def step (T : Tb) (w : List Int) (s : Sy) (at_ : Nat → Bool) (b : Nat) : Bool := (List.range (b + 1)).any fun a => at_ a && sym T w s a b
def walk (T : Tb) (w : List Int) : List Sy → (Nat → Bool) → Nat → Bool
  | [], at_ => at_
  | s :: l, at_ => walk T w l (step T w s at_)
theorem step_iff {T : Tb} {w : List Int} {s : Sy} {at_ : Nat → Bool} {b : Nat} : step T w s at_ b = true ↔ ∃ a, a ≤ b ∧ at_ a = true ∧ sym T w s a b = true := by
  unfold step
  rw [List.any_eq_true]
  constructor
  · rintro ⟨a, ha, h⟩
    rw [List.mem_range] at ha
    rw [Bool.and_eq_true] at h
    exact ⟨a, by omega, h.1, h.2⟩
  · rintro ⟨a, ha, h1, h2⟩
    exact ⟨a, List.mem_range.mpr (by omega), by rw [h1, h2]; rfl⟩
theorem walk_iff {T : Tb} {w : List Int} : ∀ {l : List Sy} {at_ : Nat → Bool} {b : Nat}, b ≤ w.length → (walk T w l at_ b = true ↔ ∃ a, at_ a = true ∧ Ch T w l a b)
  | [], at_, b, _ => by
    constructor
    · intro h; exact ⟨b, h, rfl⟩
    · rintro ⟨a, h1, h2⟩; have h2 : a = b := h2; subst h2; exact h1
  | s :: l, at_, b, hb => by
    show walk T w l (step T w s at_) b = true ↔ _
    rw [walk_iff hb]
    constructor
    · rintro ⟨c, h1, h2⟩
      obtain ⟨a, h3, h4, h5⟩ := step_iff.mp h1
      exact ⟨a, h4, c, h3, Nat.le_trans h2.le hb, h5, h2⟩
    · rintro ⟨a, h1, c, h2, _, h4, h5⟩
      exact ⟨c, step_iff.mpr ⟨a, h2, h1, h4⟩, h5⟩

end Go.Proofs.Ytgmnokmchjeflaa.Cf
