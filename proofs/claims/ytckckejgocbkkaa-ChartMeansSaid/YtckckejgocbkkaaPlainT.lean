/- Plain facts on items: what stands at each place of a word. No program is named here. -/
import Derived.Test.YtckckejgocbkkaaPlainS
namespace Go.Proofs.Ytckckejgocbkkaa.Ch
open Gr (Sy Pr Gm okSy okPr Ok)
open Cf (Cm part)

/-- An item: a production, a place in it, and the place in the word at which it began. -/
structure Im where
  prod : Nat
  dot : Nat
  frm : Nat
  deriving DecidableEq

/-- The items of a word, place by place: the least. -/
inductive It (g : Gm) (w : List Int) : Nat → Im → Prop
  | start {i : Nat} {p : Pr} : g.prods[i]? = some p → p.left = g.start → It g w 0 ⟨i, 0, 0⟩
  | ahead {a : Nat} {x : Im} {p q : Pr} {s : Sy} {j : Nat} : It g w a x → g.prods[x.prod]? = some p → p.right[x.dot]? = some s → s.non = true → g.prods[j]? = some q → q.left = s.n → It g w a ⟨j, 0, a⟩
  | over {a : Nat} {x : Im} {p : Pr} {s : Sy} : It g w a x → g.prods[x.prod]? = some p → p.right[x.dot]? = some s → s.non = false → w[a]? = some s.n → It g w (a + 1) ⟨x.prod, x.dot + 1, x.frm⟩
  | whole {a : Nat} {x y : Im} {p q : Pr} {s : Sy} : It g w a x → g.prods[x.prod]? = some p → x.dot = p.right.length → It g w x.frm y → g.prods[y.prod]? = some q → q.right[y.dot]? = some s → s.non = true → s.n = p.left → It g w a ⟨y.prod, y.dot + 1, y.frm⟩

theorem lt_of_get {α : Type} {l : List α} {i : Nat} {x : α} (h : l[i]? = some x) : i < l.length := by
  rcases Nat.lt_or_ge i l.length with h1 | h1
  · exact h1
  · rw [List.getElem?_eq_none h1] at h; exact absurd h (by simp)
theorem drop_get {α : Type} {l : List α} {i : Nat} {x : α} (h : l[i]? = some x) : l.drop i = x :: l.drop (i + 1) := by
  have hi := lt_of_get h
  rw [List.drop_eq_getElem_cons hi]
  rw [List.getElem?_eq_getElem hi] at h
  injection h with h
  rw [h]
theorem take_get {α : Type} {l : List α} {i : Nat} {x : α} (h : l[i]? = some x) : l.take (i + 1) = l.take i ++ [x] := by
  rw [List.take_add_one, h]; rfl

/-- Each item says what comes: its symbols so far, from where it began to where it stands. -/
theorem It.means {g : Gm} {w : List Int} {a : Nat} {x : Im} (h : It g w a x) : x.frm ≤ a ∧ a ≤ w.length ∧ ∃ p, g.prods[x.prod]? = some p ∧ x.dot ≤ p.right.length ∧ Cm g (p.right.take x.dot) (part w x.frm a) := by
  induction h with
  | @start i p hi _ => exact ⟨Nat.le_refl _, Nat.zero_le _, p, hi, Nat.zero_le _, by rw [Cf.part_self]; exact .nil⟩
  | @ahead a x p q s j _ _ _ _ hj _ ih => exact ⟨Nat.le_refl _, ih.2.1, q, hj, Nat.zero_le _, by rw [Cf.part_self]; exact .nil⟩
  | @over a x p s _ hp hs hn hw ih =>
    obtain ⟨h1, h2, p', hp', h3, h4⟩ := ih
    rw [hp] at hp'
    injection hp' with hp'
    subst hp'
    have hl := lt_of_get hs
    have ha := lt_of_get hw
    refine ⟨by show x.frm ≤ a + 1; omega, ha, p, hp, hl, ?_⟩
    show Cm g (p.right.take (x.dot + 1)) (part w x.frm (a + 1))
    rw [take_get hs, ← Cf.part_append w h1 (Nat.le_succ a)]
    refine h4.append ?_
    rw [Cf.part_one hw]
    have := Cm.tok (g := g) hn .nil
    exact this
  | @whole a x y p q s _ hp hd _ hq hs hn hl ih1 ih2 =>
    obtain ⟨h1, h2, p', hp', h3, h4⟩ := ih1
    obtain ⟨h5, h6, q', hq', h7, h8⟩ := ih2
    rw [hp] at hp'
    injection hp' with hp'
    subst hp'
    rw [hq] at hq'
    injection hq' with hq'
    subst hq'
    refine ⟨by show y.frm ≤ a; omega, h2, q, hq, lt_of_get hs, ?_⟩
    show Cm g (q.right.take (y.dot + 1)) (part w y.frm a)
    rw [take_get hs, ← Cf.part_append w h5 h1]
    refine h8.append ?_
    rw [hd, List.take_length] at h4
    have := Cm.non (g := g) hn (List.mem_of_getElem? hp) hl.symm h4 .nil
    rw [List.append_nil] at this
    exact this
/-- What comes of the rest of an item, and of what is behind it, makes the word go on to one that comes. -/
theorem It.goes {g : Gm} (hg : Ok g) {w : List Int} {a : Nat} {x : Im} (h : It g w a x) : ∃ p l, g.prods[x.prod]? = some p ∧ (∀ s ∈ l, okSy g s) ∧ ∀ u, Cm g (p.right.drop x.dot ++ l) u → Cm g [⟨true, g.start⟩] (part w 0 a ++ u) := by
  induction h with
  | @start i p hi hl =>
    refine ⟨p, [], hi, by simp, ?_⟩
    intro u hu
    rw [Cf.part_self]
    have hu : Cm g (p.right ++ []) u := hu
    rw [List.append_nil] at hu
    exact Cm.one.mpr ⟨p, List.mem_of_getElem? hi, hl, hu⟩
  | @ahead a x p q s j _ hp hs hn hj hl ih =>
    obtain ⟨p', l, hp', hok, hgo⟩ := ih
    rw [hp] at hp'
    injection hp' with hp'
    subst hp'
    refine ⟨q, p.right.drop (x.dot + 1) ++ l, hj, ?_, ?_⟩
    · intro y hy
      rcases List.mem_append.mp hy with hy | hy
      · exact (hg.2.2.2.2.2.2.2 p (List.mem_of_getElem? hp)).2.2.2 y (List.mem_of_mem_drop hy)
      · exact hok y hy
    · intro u hu
      have hu : Cm g (q.right ++ (p.right.drop (x.dot + 1) ++ l)) u := hu
      obtain ⟨u1, u2, rfl, h1, h2⟩ := hu.split
      apply hgo
      rw [drop_get hs]
      exact .non hn (List.mem_of_getElem? hj) hl h1 h2
  | @over a x p s _ hp hs hn hw ih =>
    obtain ⟨p', l, hp', hok, hgo⟩ := ih
    rw [hp] at hp'
    injection hp' with hp'
    subst hp'
    refine ⟨p, l, hp, hok, ?_⟩
    intro u hu
    have h1 := hgo (s.n :: u) (by rw [drop_get hs]; exact .tok hn hu)
    rw [← Cf.part_append w (Nat.zero_le a) (Nat.le_succ a), Cf.part_one hw, List.append_assoc]
    exact h1
  | @whole a x y p q s hx hp hd _ hq hs hn hl ih1 ih2 =>
    obtain ⟨q', l, hq', hok, hgo⟩ := ih2
    rw [hq] at hq'
    injection hq' with hq'
    subst hq'
    obtain ⟨h1, h2, p', hp', h3, h4⟩ := hx.means
    rw [hp] at hp'
    injection hp' with hp'
    subst hp'
    rw [hd, List.take_length] at h4
    refine ⟨q, l, hq, hok, ?_⟩
    intro u hu
    have := hgo (part w x.frm a ++ u) (by rw [drop_get hs]; exact .non hn (List.mem_of_getElem? hp) hl.symm h4 hu)
    rw [← List.append_assoc, Cf.part_append w (Nat.zero_le _) h1] at this
    exact this

/-- Sets that have all that follows, up to some place. -/
def Has (g : Gm) (w : List Int) (last : Nat) (S : Nat → Im → Prop) : Prop :=
  (∀ i p, g.prods[i]? = some p → p.left = g.start → S 0 ⟨i, 0, 0⟩) ∧
  (∀ a x p s j q, a ≤ last → S a x → g.prods[x.prod]? = some p → p.right[x.dot]? = some s → s.non = true → g.prods[j]? = some q → q.left = s.n → S a ⟨j, 0, a⟩) ∧
  (∀ a x p s, a + 1 ≤ last → S a x → g.prods[x.prod]? = some p → p.right[x.dot]? = some s → s.non = false → w[a]? = some s.n → S (a + 1) ⟨x.prod, x.dot + 1, x.frm⟩) ∧
  (∀ a x y p q s, a ≤ last → S a x → x.frm ≤ a → g.prods[x.prod]? = some p → x.dot = p.right.length → S x.frm y → g.prods[y.prod]? = some q → q.right[y.dot]? = some s → s.non = true → s.n = p.left → S a ⟨y.prod, y.dot + 1, y.frm⟩)
theorem It.has (g : Gm) (w : List Int) (last : Nat) : Has g w last (It g w) :=
  ⟨fun _ _ h1 h2 => .start h1 h2, fun _ _ _ _ _ _ _ h h1 h2 h3 h4 h5 => .ahead h h1 h2 h3 h4 h5, fun _ _ _ _ _ h h1 h2 h3 h4 => .over h h1 h2 h3 h4, fun _ _ _ _ _ _ _ h _ h1 h2 h3 h4 h5 h6 h7 => .whole h h1 h2 h3 h4 h5 h6 h7⟩
/-- Such sets have all items of the word, up to that place. -/
theorem It.least {g : Gm} {w : List Int} {last : Nat} {S : Nat → Im → Prop} (hS : Has g w last S) {a : Nat} {x : Im} (h : It g w a x) : a ≤ last → S a x := by
  induction h with
  | start h1 h2 => intro _; exact hS.1 _ _ h1 h2
  | ahead _ h1 h2 h3 h4 h5 ih => intro ha; exact hS.2.1 _ _ _ _ _ _ ha (ih ha) h1 h2 h3 h4 h5
  | @over a x p s _ h1 h2 h3 h4 ih => intro ha; exact hS.2.2.1 a x p s ha (ih (by omega)) h1 h2 h3 h4
  | @whole a x y p q s hx h1 h2 _ h3 h4 h5 h6 ih1 ih2 =>
    intro ha
    have := (hx.means).1
    exact hS.2.2.2 a x y p q s ha (ih1 ha) this h1 h2 (ih2 (by omega)) h3 h4 h5 h6

/-- What comes of the next symbols of an item leads on. -/
theorem It.come {g : Gm} {w : List Int} {l : List Sy} {u : List Int} (h : Cm g l u) : ∀ {a b : Nat} {x : Im} {p : Pr} {r : List Sy}, It g w a x → g.prods[x.prod]? = some p → p.right.drop x.dot = l ++ r → a ≤ b → b ≤ w.length → part w a b = u → It g w b ⟨x.prod, x.dot + l.length, x.frm⟩ := by
  induction h with
  | nil =>
    intro a b x p r hx _ _ hab hb e
    have h1 := Cf.part_length (a := a) hb
    rw [e] at h1
    have h1 : 0 = b - a := h1
    obtain rfl : a = b := by omega
    exact hx
  | @tok s l v hs _ ih =>
    intro a b x p r hx hp hd hab hb e
    obtain ⟨h1, h2, h3⟩ := Cf.part_cons hb e
    have hg : p.right[x.dot]? = some s := by rw [← List.head?_drop, hd]; rfl
    have h4 := It.over hx hp hg hs h1
    have h5 : p.right.drop (x.dot + 1) = l ++ r := by
      have := drop_get hg
      rw [hd] at this
      injection this with _ this
      exact this.symm
    have := ih h4 hp h5 h3 hb h2
    show It g w b ⟨x.prod, x.dot + (l.length + 1), x.frm⟩
    rw [show x.dot + (l.length + 1) = x.dot + 1 + l.length by omega]
    exact this
  | @non s l u v p' hs hp' hl hr _ ih1 ih2 =>
    intro a b x p r hx hp hd hab hb e
    obtain ⟨c, h1, h2, h3, h4⟩ := Cf.part_split hab hb e
    have hg : p.right[x.dot]? = some s := by rw [← List.head?_drop, hd]; rfl
    obtain ⟨j, hj⟩ := List.mem_iff_getElem?.mp hp'
    have h5 := It.ahead hx hp hg hs hj hl
    have h6 := ih1 (r := []) h5 hj (by rw [List.append_nil]; rfl) h1 (by omega) h3
    have h6 : It g w c ⟨j, 0 + p'.right.length, a⟩ := h6
    rw [Nat.zero_add] at h6
    have h7 := It.whole h6 hj rfl hx hp hg hs hl.symm
    have h5 : p.right.drop (x.dot + 1) = l ++ r := by
      have := drop_get hg
      rw [hd] at this
      injection this with _ this
      exact this.symm
    have := ih2 h7 hp h5 h2 hb h4
    show It g w b ⟨x.prod, x.dot + (l.length + 1), x.frm⟩
    rw [show x.dot + (l.length + 1) = x.dot + 1 + l.length by omega]
    exact this
/-- Where what comes goes on with a token, an item waits for it. -/
theorem It.waits {g : Gm} {w : List Int} {t : Int} {v : List Int} {l : List Sy} {z : List Int} (h : Cm g l z) : ∀ {u : List Int} {a b : Nat} {x : Im} {p : Pr} {r : List Sy}, z = u ++ t :: v → It g w a x → g.prods[x.prod]? = some p → p.right.drop x.dot = l ++ r → a ≤ b → b ≤ w.length → part w a b = u →
    ∃ y q s, It g w b y ∧ g.prods[y.prod]? = some q ∧ q.right[y.dot]? = some s ∧ s.non = false ∧ s.n = t := by
  induction h generalizing v with
  | nil => intro u a b x p r e; exact absurd e (by simp)
  | @tok s l z hs _ ih =>
    intro u a b x p r e hx hp hd hab hb ep
    have hg : p.right[x.dot]? = some s := by rw [← List.head?_drop, hd]; rfl
    cases u with
    | nil =>
      injection e with e1 _
      have h1 := Cf.part_length (a := a) hb
      rw [ep] at h1
      have h1 : 0 = b - a := h1
      obtain rfl : a = b := by omega
      exact ⟨x, p, s, hx, hp, hg, hs, e1⟩
    | cons y u =>
      injection e with e1 e2
      subst e1
      obtain ⟨h1, h2, h3⟩ := Cf.part_cons hb ep
      have h4 := It.over hx hp hg hs h1
      have h5 : p.right.drop (x.dot + 1) = l ++ r := by
        have := drop_get hg
        rw [hd] at this
        injection this with _ this
        exact this.symm
      exact ih e2 h4 hp h5 h3 hb h2
  | @non s l u0 v0 p' hs hp' hl hr hc ih1 ih2 =>
    intro u a b x p r e hx hp hd hab hb ep
    have hg : p.right[x.dot]? = some s := by rw [← List.head?_drop, hd]; rfl
    obtain ⟨j, hj⟩ := List.mem_iff_getElem?.mp hp'
    have h5 := It.ahead hx hp hg hs hj hl
    rcases List.append_eq_append_iff.mp e with ⟨m, e1, e2⟩ | ⟨m, e1, e2⟩
    · -- u = u0 ++ m
      rw [e1] at ep
      obtain ⟨c, h1, h2, h3, h4⟩ := Cf.part_split hab hb ep
      have h6 := It.come (w := w) hr (r := []) h5 hj (by rw [List.append_nil]; rfl) h1 (by omega) h3
      have h6 : It g w c ⟨j, 0 + p'.right.length, a⟩ := h6
      rw [Nat.zero_add] at h6
      have h7 := It.whole h6 hj rfl hx hp hg hs hl.symm
      have h8 : p.right.drop (x.dot + 1) = l ++ r := by
        have := drop_get hg
        rw [hd] at this
        injection this with _ this
        exact this.symm
      exact ih2 e2 h7 hp h8 h2 hb h4
    · cases m with
      | nil =>
        -- the cut is just behind it
        rw [List.append_nil] at e1
        subst e1
        have e2 : v0 = [] ++ t :: v := e2.symm
        have h6 := It.come (w := w) hr (r := []) h5 hj (by rw [List.append_nil]; rfl) hab hb ep
        have h6 : It g w b ⟨j, 0 + p'.right.length, a⟩ := h6
        rw [Nat.zero_add] at h6
        have h7 := It.whole h6 hj rfl hx hp hg hs hl.symm
        have h8 : p.right.drop (x.dot + 1) = l ++ r := by
          have := drop_get hg
          rw [hd] at this
          injection this with _ this
          exact this.symm
        exact ih2 e2 h7 hp h8 (Nat.le_refl b) hb (Cf.part_self w b)
      | cons y m =>
        injection e2 with e3 e4
        subst e3
        exact ih1 (v := m) (r := []) e1 h5 hj (by rw [List.append_nil]; rfl) hab hb ep

/-- A token is next at an item just if the word goes on with it to one that comes. -/
theorem next_iff {g : Gm} (hg : Ok g) (hv : ∀ l, (∀ s ∈ l, okSy g s) → ∃ u, Cm g l u) {w : List Int} {a : Nat} (ha : a ≤ w.length) (t : Int) :
    (∃ x p s, It g w a x ∧ g.prods[x.prod]? = some p ∧ p.right[x.dot]? = some s ∧ s.non = false ∧ s.n = t) ↔ ∃ v, Cm g [⟨true, g.start⟩] (w.take a ++ t :: v) := by
  constructor
  · rintro ⟨x, p, s, hx, hp, hs, hn, rfl⟩
    obtain ⟨p', l, hp', hok, hgo⟩ := hx.goes hg
    rw [hp] at hp'
    injection hp' with hp'
    subst hp'
    obtain ⟨u, hu⟩ := hv (p.right.drop (x.dot + 1) ++ l) (by
      intro y hy
      rcases List.mem_append.mp hy with hy | hy
      · exact (hg.2.2.2.2.2.2.2 p (List.mem_of_getElem? hp)).2.2.2 y (List.mem_of_mem_drop hy)
      · exact hok y hy)
    exact ⟨u, hgo (s.n :: u) (by rw [drop_get hs]; exact .tok hn hu)⟩
  · rintro ⟨v, h⟩
    obtain ⟨p, hp, hl, hr⟩ := Cm.one.mp h
    obtain ⟨j, hj⟩ := List.mem_iff_getElem?.mp hp
    exact It.waits hr rfl (It.start hj hl) hj (by show p.right.drop 0 = p.right ++ []; rw [List.append_nil]; rfl) (Nat.zero_le a) ha rfl
/-- Without that all comes of something: what goes on so has an item that waits. -/
theorem next_of {g : Gm} {w : List Int} {a : Nat} (ha : a ≤ w.length) {t : Int} {v : List Int} (h : Cm g [⟨true, g.start⟩] (w.take a ++ t :: v)) :
    ∃ x p s, It g w a x ∧ g.prods[x.prod]? = some p ∧ p.right[x.dot]? = some s ∧ s.non = false ∧ s.n = t := by
  obtain ⟨p, hp, hl, hr⟩ := Cm.one.mp h
  obtain ⟨j, hj⟩ := List.mem_iff_getElem?.mp hp
  exact It.waits hr rfl (It.start hj hl) hj (by show p.right.drop 0 = p.right ++ []; rw [List.append_nil]; rfl) (Nat.zero_le a) ha rfl
/-- A whole item of Start, from 0, stands just where what is ahead comes. -/
theorem end_iff {g : Gm} {w : List Int} {a : Nat} (ha : a ≤ w.length) :
    (∃ x p, It g w a x ∧ g.prods[x.prod]? = some p ∧ x.dot = p.right.length ∧ p.left = g.start ∧ x.frm = 0) ↔ Cm g [⟨true, g.start⟩] (w.take a) := by
  constructor
  · rintro ⟨x, p, hx, hp, hd, hl, h0⟩
    obtain ⟨_, _, p', hp', _, h4⟩ := hx.means
    rw [hp] at hp'
    injection hp' with hp'
    subst hp'
    rw [hd, List.take_length, h0] at h4
    exact Cm.one.mpr ⟨p, List.mem_of_getElem? hp, hl, h4⟩
  · intro h
    obtain ⟨p, hp, hl, hr⟩ := Cm.one.mp h
    obtain ⟨j, hj⟩ := List.mem_iff_getElem?.mp hp
    have := It.come (w := w) hr (r := []) (It.start hj hl) hj (by show p.right.drop 0 = p.right ++ []; rw [List.append_nil]; rfl) (Nat.zero_le a) ha rfl
    exact ⟨_, p, this, hj, by show 0 + p.right.length = _; omega, hl, rfl⟩
end Go.Proofs.Ytckckejgocbkkaa.Ch
/- Plain facts on derivations, and on the least and the greatest of a word's. No program is named here. -/
namespace Go.Proofs.Ytckckejgocbkkaa.Dv
open Gr (Sy Pr Gm okSy okPr Ok)
open Cf (Cm)

/-- Productions that turn a row of symbols into a word, the leftmost nonterminal first. -/
inductive Dr (ps : List Pr) : List Nat → List Sy → List Int → Prop
  | nil : Dr ps [] [] []
  | tok {l : List Nat} {s : Sy} {row : List Sy} {w : List Int} : s.non = false → Dr ps l row w → Dr ps l (s :: row) (s.n :: w)
  | non {l : List Nat} {s : Sy} {row : List Sy} {w : List Int} {i : Nat} {p : Pr} : s.non = true → ps[i]? = some p → p.left = s.n → Dr ps l (p.right ++ row) w → Dr ps (i :: l) (s :: row) w

theorem Dr.nil_inv {ps : List Pr} {l : List Nat} {w : List Int} (h : Dr ps l [] w) : l = [] ∧ w = [] := by cases h; exact ⟨rfl, rfl⟩
theorem Dr.tok_inv {ps : List Pr} {l : List Nat} {s : Sy} {row : List Sy} {w : List Int} (h : Dr ps l (s :: row) w) (hs : s.non = false) : ∃ v, w = s.n :: v ∧ Dr ps l row v := by
  cases h with
  | tok _ h => exact ⟨_, rfl, h⟩
  | non h1 => rw [hs] at h1; exact absurd h1 (by decide)
theorem Dr.non_inv {ps : List Pr} {l : List Nat} {s : Sy} {row : List Sy} {w : List Int} (h : Dr ps l (s :: row) w) (hs : s.non = true) : ∃ i m p, l = i :: m ∧ ps[i]? = some p ∧ p.left = s.n ∧ Dr ps m (p.right ++ row) w := by
  cases h with
  | tok h1 => rw [hs] at h1; exact absurd h1 (by decide)
  | non _ hi hl h => exact ⟨_, _, _, rfl, hi, hl, h⟩
theorem Dr.append {ps : List Pr} {l : List Nat} {r : List Sy} {u : List Int} (h : Dr ps l r u) {m : List Nat} {q : List Sy} {v : List Int} (hm : Dr ps m q v) : Dr ps (l ++ m) (r ++ q) (u ++ v) := by
  induction h with
  | nil => exact hm
  | tok hs _ ih => exact .tok hs ih
  | @non l s row w i p hs hi hl _ ih =>
    have ih : Dr ps (l ++ m) (p.right ++ row ++ q) (w ++ v) := ih
    rw [List.append_assoc] at ih
    exact .non hs hi hl ih
theorem Dr.split {ps : List Pr} {l : List Nat} {r : List Sy} {w : List Int} (h : Dr ps l r w) : ∀ {r1 r2 : List Sy}, r = r1 ++ r2 → ∃ l1 l2 u v, l = l1 ++ l2 ∧ w = u ++ v ∧ Dr ps l1 r1 u ∧ Dr ps l2 r2 v := by
  induction h with
  | nil =>
    intro r1 r2 e
    obtain ⟨rfl, rfl⟩ := List.append_eq_nil_iff.mp e.symm
    exact ⟨[], [], [], [], rfl, rfl, .nil, .nil⟩
  | @tok l s row w hs h ih =>
    intro r1 r2 e
    cases r1 with
    | nil =>
      have e : s :: row = r2 := e
      subst e
      exact ⟨[], l, [], s.n :: w, rfl, rfl, .nil, .tok hs h⟩
    | cons x r1 =>
      injection e with e1 e2
      subst e1
      obtain ⟨l1, l2, u, v, h1, h2, h3, h4⟩ := ih e2
      exact ⟨l1, l2, s.n :: u, v, h1, by rw [h2]; rfl, .tok hs h3, h4⟩
  | @non l s row w i p hs hi hl h ih =>
    intro r1 r2 e
    cases r1 with
    | nil =>
      have e : s :: row = r2 := e
      subst e
      exact ⟨[], i :: l, [], w, rfl, rfl, .nil, .non hs hi hl h⟩
    | cons x r1 =>
      injection e with e1 e2
      subst e1
      obtain ⟨l1, l2, u, v, h1, h2, h3, h4⟩ := ih (r1 := p.right ++ r1) (r2 := r2) (by rw [List.append_assoc]; exact congrArg (p.right ++ ·) e2)
      exact ⟨i :: l1, l2, u, v, by rw [h1]; rfl, h2, .non hs hi hl h3, h4⟩
/-- The word of a derivation comes. -/
theorem Dr.cm {g : Gm} {l : List Nat} {r : List Sy} {w : List Int} (h : Dr g.prods l r w) : Cm g r w := by
  induction h with
  | nil => exact .nil
  | tok hs _ ih => exact .tok hs ih
  | non hs hi hl _ ih =>
    obtain ⟨u, v, rfl, h1, h2⟩ := ih.split
    exact .non hs (List.mem_of_getElem? hi) hl h1 h2
/-- And what comes has a derivation. -/
theorem cm_dr {g : Gm} {r : List Sy} {w : List Int} (h : Cm g r w) : ∃ l, Dr g.prods l r w := by
  induction h with
  | nil => exact ⟨[], .nil⟩
  | tok hs _ ih => obtain ⟨l, h⟩ := ih; exact ⟨l, .tok hs h⟩
  | non hs hp hl _ _ ih1 ih2 =>
    obtain ⟨l1, h1⟩ := ih1
    obtain ⟨l2, h2⟩ := ih2
    obtain ⟨i, hi⟩ := List.mem_iff_getElem?.mp hp
    exact ⟨i :: (l1 ++ l2), .non hs hi hl (h1.append h2)⟩
/-- A derivation has one word; none is the beginning of another one. -/
theorem Dr.apart {ps : List Pr} {l : List Nat} {r : List Sy} {w : List Int} (h : Dr ps l r w) : ∀ {m : List Nat} {v : List Int}, Dr ps (l ++ m) r v → m = [] ∧ w = v := by
  induction h with
  | nil => intro m v h; obtain ⟨h1, h2⟩ := h.nil_inv; exact ⟨h1, h2.symm⟩
  | tok hs _ ih =>
    intro m v h
    obtain ⟨v, rfl, hv⟩ := h.tok_inv hs
    obtain ⟨h1, h2⟩ := ih hv
    exact ⟨h1, by rw [h2]⟩
  | non hs hi hl _ ih =>
    intro m v h
    obtain ⟨i', m', p', h1, h2, h3, h4⟩ := h.non_inv hs
    injection h1 with h5 h6
    subst h5
    rw [hi] at h2
    injection h2 with h2
    subst h2
    rw [← h6] at h4
    exact ih h4
theorem Dr.one {ps : List Pr} {l : List Nat} {r : List Sy} {w v : List Int} (h : Dr ps l r w) (h2 : Dr ps l r v) : w = v := (h.apart (m := []) (by rw [List.append_nil]; exact h2)).2

/-- The terminals with which a row begins, and the rest. -/
def toks : List Sy → List Int
  | [] => []
  | s :: r => if s.non then [] else s.n :: toks r
def rest : List Sy → List Sy
  | [] => []
  | s :: r => if s.non then s :: r else rest r
theorem rest_len : ∀ r, (rest r).length ≤ r.length
  | [] => Nat.le_refl _
  | s :: r => by
    unfold rest
    split
    · exact Nat.le_refl _
    · have := rest_len r; simp; omega
theorem rest_head : ∀ {r : List Sy} {s : Sy} {q : List Sy}, rest r = s :: q → s.non = true
  | [], s, q, h => absurd h (by simp [rest])
  | x :: r, s, q, h => by
    unfold rest at h
    split at h
    · injection h with h1 _; subst h1; assumption
    · exact rest_head h
theorem dr_rest {ps : List Pr} : ∀ {l : List Nat} {r : List Sy} {w : List Int}, Dr ps l r w ↔ ∃ v, w = toks r ++ v ∧ Dr ps l (rest r) v
  | l, [], w => by
    constructor
    · intro h; exact ⟨w, rfl, h⟩
    · rintro ⟨v, rfl, h⟩; exact h
  | l, s :: r, w => by
    unfold toks rest
    cases e : s.non with
    | true =>
      rw [if_pos rfl, if_pos rfl]
      constructor
      · intro h; exact ⟨w, rfl, h⟩
      · rintro ⟨v, rfl, h⟩; exact h
    | false =>
      rw [if_neg (by decide), if_neg (by decide)]
      constructor
      · intro h
        obtain ⟨v, rfl, hv⟩ := h.tok_inv e
        obtain ⟨v', rfl, h'⟩ := dr_rest.mp hv
        exact ⟨v', rfl, h'⟩
      · rintro ⟨v, rfl, h⟩
        exact .tok e (dr_rest.mpr ⟨v, rfl, h⟩)
theorem cm_rest {g : Gm} {r : List Sy} {w : List Int} : Cm g r w ↔ ∃ v, w = toks r ++ v ∧ Cm g (rest r) v := by
  constructor
  · intro h
    obtain ⟨l, hl⟩ := cm_dr h
    obtain ⟨v, e, hv⟩ := dr_rest.mp hl
    exact ⟨v, e, hv.cm⟩
  · rintro ⟨v, e, h⟩
    obtain ⟨l, hl⟩ := cm_dr h
    exact (dr_rest.mpr ⟨v, e, hl⟩).cm

/-- What becomes of a row by productions: a word, or what is wrong (2: one does not fit, 3: nonterminals are left). -/
def play (ps : List Pr) : List Int → List Sy → List Int × Nat
  | [], row => match rest row with
    | [] => (toks row, 0)
    | _ :: _ => ([], 3)
  | i :: l, row => match rest row with
    | [] => ([], 2)
    | s :: r => match (if 0 ≤ i then ps[i.toNat]? else none) with
      | none => ([], 2)
      | some p => if p.left = s.n then (if (play ps l (p.right ++ r)).2 = 0 then (toks row ++ (play ps l (p.right ++ r)).1, 0) else ([], (play ps l (p.right ++ r)).2)) else ([], 2)
theorem play_dr {ps : List Pr} : ∀ {l : List Int} {row : List Sy} {w : List Int}, play ps l row = (w, 0) ↔ ∃ m : List Nat, l = m.map (fun (i : Nat) => (i : Int)) ∧ Dr ps m row w
  | [], row, w => by
    unfold play
    cases e : rest row with
    | nil =>
      show (toks row, 0) = (w, 0) ↔ _
      constructor
      · intro h
        injection h with h _
        refine ⟨[], rfl, dr_rest.mpr ⟨[], by rw [← h]; simp, by rw [e]; exact .nil⟩⟩
      · rintro ⟨m, hm, h⟩
        have hm : m = [] := by cases m with
          | nil => rfl
          | cons x m => exact absurd hm (by simp)
        subst hm
        obtain ⟨v, rfl, hv⟩ := dr_rest.mp h
        rw [e] at hv
        rw [hv.nil_inv.2]; simp
    | cons s r =>
      show (([], 3) : List Int × Nat) = (w, 0) ↔ _
      constructor
      · intro h; injection h with _ h; exact absurd h (by decide)
      · rintro ⟨m, hm, h⟩
        have hm : m = [] := by cases m with
          | nil => rfl
          | cons x m => exact absurd hm (by simp)
        subst hm
        obtain ⟨v, rfl, hv⟩ := dr_rest.mp h
        rw [e] at hv
        obtain ⟨i, m, p, h1, _⟩ := hv.non_inv (rest_head e)
        exact absurd h1 (by simp)
  | i :: l, row, w => by
    unfold play
    cases e : rest row with
    | nil =>
      show (([], 2) : List Int × Nat) = (w, 0) ↔ _
      constructor
      · intro h; injection h with _ h; exact absurd h (by decide)
      · rintro ⟨m, hm, h⟩
        obtain ⟨v, rfl, hv⟩ := dr_rest.mp h
        rw [e] at hv
        rw [hv.nil_inv.1] at hm
        exact absurd hm (by simp)
    | cons s r =>
      have hs := rest_head e
      show (match (if 0 ≤ i then ps[i.toNat]? else none) with
        | none => (([], 2) : List Int × Nat)
        | some p => if p.left = s.n then (if (play ps l (p.right ++ r)).2 = 0 then (toks row ++ (play ps l (p.right ++ r)).1, 0) else ([], (play ps l (p.right ++ r)).2)) else ([], 2)) = (w, 0) ↔ _
      have bad : (([], 2) : List Int × Nat) = (w, 0) ↔ False := ⟨fun h => by injection h with _ h; exact absurd h (by decide), False.elim⟩
      cases e2 : (if 0 ≤ i then ps[i.toNat]? else none) with
      | none =>
        show (([], 2) : List Int × Nat) = (w, 0) ↔ _
        rw [bad, false_iff]
        rintro ⟨m, hm, h⟩
        obtain ⟨v, rfl, hv⟩ := dr_rest.mp h
        rw [e] at hv
        obtain ⟨i', m', p', rfl, h2, _⟩ := hv.non_inv hs
        injection hm with h3 _
        have h3 : i = (i' : Int) := h3
        rw [if_pos (by omega), h3, Int.toNat_natCast, h2] at e2
        exact absurd e2 (by simp)
      | some p =>
        have h0 : 0 ≤ i := by
          rcases Int.lt_or_le i 0 with h0 | h0
          · rw [if_neg (by omega)] at e2; exact absurd e2 (by simp)
          · exact h0
        rw [if_pos h0] at e2
        show (if p.left = s.n then (if (play ps l (p.right ++ r)).2 = 0 then (toks row ++ (play ps l (p.right ++ r)).1, 0) else ([], (play ps l (p.right ++ r)).2)) else ([], 2)) = (w, 0) ↔ _
        by_cases hl : p.left = s.n
        · rw [if_pos hl]
          constructor
          · intro h
            by_cases h1 : (play ps l (p.right ++ r)).2 = 0
            · rw [if_pos h1] at h
              injection h with h _
              obtain ⟨m, hm, hd⟩ := (play_dr (l := l) (row := p.right ++ r) (w := (play ps l (p.right ++ r)).1)).mp (by rw [← h1])
              refine ⟨i.toNat :: m, ?_, dr_rest.mpr ⟨_, h.symm, by rw [e]; exact .non hs e2 hl hd⟩⟩
              show i :: l = ((i.toNat : Nat) : Int) :: _
              rw [Int.toNat_of_nonneg h0, hm]
            · rw [if_neg h1] at h
              injection h with _ h
              exact absurd h h1
          · rintro ⟨m, hm, h⟩
            obtain ⟨v, rfl, hv⟩ := dr_rest.mp h
            rw [e] at hv
            obtain ⟨i', m', p', rfl, h2, h3, h4⟩ := hv.non_inv hs
            injection hm with h5 h6
            have h5 : i = (i' : Int) := h5
            rw [h5, Int.toNat_natCast, h2] at e2
            injection e2 with e2
            subst e2
            have := play_dr.mpr ⟨m', h6, h4⟩
            rw [this, if_pos rfl]
        · rw [if_neg hl, bad, false_iff]
          rintro ⟨m, hm, h⟩
          obtain ⟨v, rfl, hv⟩ := dr_rest.mp h
          rw [e] at hv
          obtain ⟨i', m', p', rfl, h2, h3, _⟩ := hv.non_inv hs
          injection hm with h5 _
          have h5 : i = (i' : Int) := h5
          rw [h5, Int.toNat_natCast, h2] at e2
          injection e2 with e2
          subst e2
          exact hl h3

/-- Which of two stands ahead. -/
def less : List Int → List Int → Bool
  | [], [] => false
  | [], _ :: _ => true
  | _ :: _, [] => false
  | a :: l, b :: m => if a = b then less l m else decide (a < b)
theorem less_irrefl : ∀ l, less l l = false
  | [] => rfl
  | a :: l => by unfold less; rw [if_pos rfl]; exact less_irrefl l
theorem less_asymm : ∀ l m, less l m = true → less m l = false
  | [], [], h => absurd h (by simp [less])
  | [], _ :: _, _ => rfl
  | _ :: _, [], h => absurd h (by simp [less])
  | a :: l, b :: m, h => by
    unfold less at h ⊢
    by_cases e : a = b
    · rw [if_pos e] at h
      rw [if_pos e.symm]
      exact less_asymm l m h
    · rw [if_neg e] at h
      rw [if_neg (fun x => e x.symm)]
      have := of_decide_eq_true h
      exact decide_eq_false (by omega)
theorem less_total : ∀ l m, l ≠ m → less l m = false → less m l = true
  | [], [], h, _ => absurd rfl h
  | [], _ :: _, _, h => absurd h (by simp [less])
  | _ :: _, [], _, _ => rfl
  | a :: l, b :: m, h, h2 => by
    unfold less at h2 ⊢
    by_cases e : a = b
    · rw [if_pos e] at h2
      rw [if_pos e.symm]
      exact less_total l m (fun x => h (by rw [e, x])) h2
    · rw [if_neg e] at h2
      rw [if_neg (fun x => e x.symm)]
      have := of_decide_eq_false h2
      exact decide_eq_true (by omega)

/-- The next production of a row, by a choice: a derivation that goes by it at each step. -/
inductive By (ps : List Pr) (pick : Sy → List Sy → List Int → Option Nat) : List Nat → List Sy → List Int → Prop
  | nil : By ps pick [] [] []
  | tok {l : List Nat} {s : Sy} {row : List Sy} {w : List Int} : s.non = false → By ps pick l row w → By ps pick l (s :: row) (s.n :: w)
  | non {l : List Nat} {s : Sy} {row : List Sy} {w : List Int} {i : Nat} {p : Pr} : s.non = true → pick s row w = some i → ps[i]? = some p → p.left = s.n → By ps pick l (p.right ++ row) w → By ps pick (i :: l) (s :: row) w
theorem By.dr {ps : List Pr} {pick : Sy → List Sy → List Int → Option Nat} {l : List Nat} {r : List Sy} {w : List Int} (h : By ps pick l r w) : Dr ps l r w := by
  induction h with
  | nil => exact .nil
  | tok hs _ ih => exact .tok hs ih
  | non hs _ hi hl _ ih => exact .non hs hi hl ih
def ints (l : List Nat) : List Int := l.map (fun (i : Nat) => (i : Int))
theorem ints_cons (i : Nat) (l : List Nat) : ints (i :: l) = (i : Int) :: ints l := rfl
/-- No derivation stands ahead of the one that takes the least production by which the word may still come. -/
theorem By.least {ps : List Pr} {pick : Sy → List Sy → List Int → Option Nat} {l : List Nat} {r : List Sy} {w : List Int} (h : By ps pick l r w)
    (hp : ∀ s row w i j p m, pick s row w = some i → ps[j]? = some p → p.left = s.n → Dr ps m (p.right ++ row) w → i ≤ j) : ∀ {m : List Nat}, Dr ps m r w → less (ints m) (ints l) = false := by
  induction h with
  | nil => intro m hm; rw [hm.nil_inv.1]; rfl
  | tok hs _ ih =>
    intro m hm
    obtain ⟨v, e, hm⟩ := hm.tok_inv hs
    injection e with _ e
    subst e
    exact ih hm
  | @non l s row w i p hs hpk hi hl _ ih =>
    intro m hm
    obtain ⟨j, m', q, rfl, h2, h3, h4⟩ := hm.non_inv hs
    have hij := hp s row w i j q m' hpk h2 h3 h4
    rw [ints_cons, ints_cons]
    unfold less
    by_cases e : j = i
    · subst e
      rw [if_pos rfl]
      rw [hi] at h2
      injection h2 with h2
      subst h2
      exact ih h4
    · rw [if_neg (by omega)]
      exact decide_eq_false (by omega)
/-- And none behind the one that takes the greatest. -/
theorem By.greatest {ps : List Pr} {pick : Sy → List Sy → List Int → Option Nat} {l : List Nat} {r : List Sy} {w : List Int} (h : By ps pick l r w)
    (hp : ∀ s row w i j p m, pick s row w = some i → ps[j]? = some p → p.left = s.n → Dr ps m (p.right ++ row) w → j ≤ i) : ∀ {m : List Nat}, Dr ps m r w → less (ints l) (ints m) = false := by
  induction h with
  | nil => intro m hm; rw [hm.nil_inv.1]; rfl
  | tok hs _ ih =>
    intro m hm
    obtain ⟨v, e, hm⟩ := hm.tok_inv hs
    injection e with _ e
    subst e
    exact ih hm
  | @non l s row w i p hs hpk hi hl _ ih =>
    intro m hm
    obtain ⟨j, m', q, rfl, h2, h3, h4⟩ := hm.non_inv hs
    have hij := hp s row w i j q m' hpk h2 h3 h4
    rw [ints_cons, ints_cons]
    unfold less
    by_cases e : i = j
    · subst e
      rw [if_pos rfl]
      rw [hi] at h2
      injection h2 with h2
      subst h2
      exact ih h4
    · rw [if_neg (by omega)]
      exact decide_eq_false (by omega)
end Go.Proofs.Ytckckejgocbkkaa.Dv
/- Plain facts on derivations of words, by a word's rows: the least, the greatest, and those of words that go on. No program is named here. -/
namespace Go.Proofs.Ytckckejgocbkkaa.Ld
open Gr (Sy Pr Gm okSy okPr Ok)
open Cf (Cm Ch Tb sym part)
open Wi (Lives low)
open Sp (rowN ofE ofO SyG tbl bitsN)
open Dv (Dr)

/-- May what is asked for come of a row, from a place on? (Of kind 2 the word may go on.) -/
def May (K : Nat) (g : Gm) (u : List Int) (r : List Sy) (a : Nat) : Prop := if K = 2 then ∃ v, Cm g r (u.drop a ++ v) else Cm g r (u.drop a)
theorem may_two {g : Gm} {u : List Int} {r : List Sy} {a : Nat} : May 2 g u r a ↔ ∃ v, Cm g r (u.drop a ++ v) := by unfold May; rw [if_pos rfl]
theorem may_one {K : Nat} (hK : K ≠ 2) {g : Gm} {u : List Int} {r : List Sy} {a : Nat} : May K g u r a ↔ Cm g r (u.drop a) := by unfold May; rw [if_neg hK]
open Classical in
noncomputable def mayB (K : Nat) (g : Gm) (u : List Int) (r : List Sy) (a : Nat) : Bool := decide (May K g u r a)
open Classical in
theorem mayB_iff {K : Nat} {g : Gm} {u : List Int} {r : List Sy} {a : Nat} : mayB K g u r a = true ↔ May K g u r a := by unfold mayB; exact decide_eq_true_iff
open Classical in
theorem mayB_no {K : Nat} {g : Gm} {u : List Int} {r : List Sy} {a : Nat} : mayB K g u r a = false ↔ ¬ May K g u r a := by unfold mayB; exact decide_eq_false_iff_not

/-- The places from which it may come, as bits. -/
noncomputable def fromN (K : Nat) (g : Gm) (u : List Int) (r : List Sy) : Nat := bitsN (u.length + 1) (mayB K g u r)
theorem fromN_bit {K : Nat} {g : Gm} {u : List Int} {r : List Sy} {t : Nat} : (fromN K g u r).testBit t = true ↔ t ≤ u.length ∧ May K g u r t := by
  unfold fromN
  rw [Sp.bitsN_bit, Bool.and_eq_true, decide_eq_true_eq, mayB_iff]
  constructor
  · rintro ⟨h1, h2⟩; exact ⟨by omega, h2⟩
  · rintro ⟨h1, h2⟩; exact ⟨by omega, h2⟩
theorem fromN_lt {K : Nat} {g : Gm} {u : List Int} {r : List Sy} (hu : u.length ≤ 24) : fromN K g u r < 33554432 := by
  have h := Sp.bitsN_lt (u.length + 1) (mayB K g u r)
  have h2 : 2 ^ (u.length + 1) ≤ 2 ^ 25 := Nat.pow_le_pow_right (by decide) (by omega)
  have h3 : (33554432 : Nat) = 2 ^ 25 := rfl
  unfold fromN
  omega
theorem may_nil {K : Nat} {g : Gm} {u : List Int} {a : Nat} : May K g u [] a ↔ u.length ≤ a := by
  unfold May
  split
  · constructor
    · rintro ⟨v, h⟩
      have h := (List.append_eq_nil_iff.mp h.nil_inv).1
      rwa [List.drop_eq_nil_iff] at h
    · intro h
      exact ⟨[], by rw [List.drop_eq_nil_of_le h]; exact .nil⟩
  · constructor
    · intro h
      have h := h.nil_inv
      rwa [List.drop_eq_nil_iff] at h
    · intro h
      rw [List.drop_eq_nil_of_le h]; exact .nil
theorem fromN_nil (K : Nat) (g : Gm) (u : List Int) : fromN K g u [] = 2 ^ u.length := by
  apply Nat.eq_of_testBit_eq
  intro t
  rw [Bool.eq_iff_iff, fromN_bit, may_nil, Nat.testBit_two_pow, decide_eq_true_eq]
  omega

section
variable {g : Gm} {F : Nat → Nat} {u : List Int}
/-- The rows of a word, whole. -/
def Full (g : Gm) (F : Nat → Nat) (u : List Int) : Prop := ∀ a, a ≤ u.length → ∀ i, i < 25 → F (25 * a + i) = rowN g (u.drop a) i
theorem Full.undr (h : Full g F u) (hg : Ok g) (hu : u.length ≤ 24) : Sp.Undr g F 0 u := by
  refine ⟨fun n hn k hk => ?_, fun n hk => ?_, fun a h1 h2 i hi => ?_⟩
  · have := h 0 (Nat.zero_le _) n (by omega)
    rw [this, List.drop_zero] at hk
    exact (Sp.rowN_end hn hu).mp hk
  · have := h 0 (Nat.zero_le _) 24 (by omega)
    rw [this, List.drop_zero] at hk
    exact (Sp.rowN_over hg (by omega)).mp hk
  · rw [Nat.zero_add]; exact h a h2 i hi
/-- What a symbol comes to, by the rows. -/
theorem ofE_com (h : Full g F u) (hg : Ok g) (hu : u.length ≤ 24) {s : Sy} (hs : SyG s) {a t : Nat} (ha : a ≤ u.length) (hat : a ≤ t) : (ofE F 0 u s a).testBit (t - a) = true ↔ t ≤ u.length ∧ Cm g [s] (part u a t) := by
  constructor
  · intro h1
    rw [Sp.ofE_iff hs ha hat] at h1
    have := Cf.sound_sym ((h.undr hg hu).sound hu) hs.1 h1
    exact ⟨this.2.1, this.2.2⟩
  · rintro ⟨h1, h2⟩
    unfold ofE
    by_cases e : s.non = true
    · rw [if_pos e, Nat.zero_add, h a ha _ (by have := hs.2 e; have := hs.1; omega)]
      have hn : s.n.toNat < 24 := by have := hs.2 e; have := hs.1; omega
      rw [Sp.rowN_end hn (by rw [List.length_drop]; omega), List.length_drop]
      refine ⟨by omega, ?_⟩
      rw [← Sp.part_drop, Int.toNat_of_nonneg hs.1]
      have es : s = ⟨true, s.n⟩ := by rw [← e]
      rw [es] at h2
      exact h2
    · have e : s.non = false := by simpa using e
      have es : s = ⟨false, s.n⟩ := by rw [← e]
      rw [es] at h2
      have h3 := Cf.Cm.token.mp h2
      have h4 := Cf.part_cons h1 h3
      have h5 := Cf.part_length (w := u) (a := a) h1
      rw [h3, List.length_singleton] at h5
      rw [if_neg (by rw [e]; decide), if_pos h4.1, Sp.two_bit]
      omega
/-- And whether it goes on. -/
theorem ofO_com (h : Full g F u) (hg : Ok g) (hu : u.length ≤ 24) {s : Sy} (hs : SyG s) {a : Nat} (ha : a ≤ u.length) : ofO F 0 u s a = true ↔ ∃ v, Cm g [s] (u.drop a ++ v) := by
  constructor
  · exact Sp.ofO_goes (h.undr hg hu) hg hs.1 ha
  · rintro ⟨v, hc⟩
    unfold ofO
    by_cases e : s.non = true
    · rw [if_pos e, Nat.zero_add, h a ha 24 (by omega), Sp.rowN_over hg (by omega), Int.toNat_of_nonneg hs.1]
      have es : s = ⟨true, s.n⟩ := by rw [← e]
      rw [es] at hc
      exact ⟨v, hc⟩
    · rw [if_neg e, decide_eq_true_eq]
      have e : s.non = false := by simpa using e
      have es : s = ⟨false, s.n⟩ := by rw [← e]
      rw [es] at hc
      have hc := Cf.Cm.token.mp hc
      by_cases hl : a = u.length
      · exact .inl hl
      · right
        have hl : a < u.length := by omega
        rw [List.drop_eq_getElem_cons hl, List.cons_append] at hc
        injection hc with h3 h4
        have h5 := (List.append_eq_nil_iff.mp h4).1
        rw [List.drop_eq_nil_iff] at h5
        exact ⟨by rw [List.getElem?_eq_getElem hl, h3], by omega⟩
/-- A row of symbols that may be. -/
def RowG (g : Gm) (r : List Sy) : Prop := ∀ s ∈ r, okSy g s
theorem okSy_syg (hg : Ok g) {s : Sy} (h : okSy g s) : SyG s := by
  have := hg.2.2.2.1
  exact ⟨h.1, fun e => by have := h.2.1 e; omega⟩
theorem RowG.lives {r : List Sy} (h : RowG g r) (hv : Lives g) : ∃ w, Cm g r w := Wi.lives_all hv fun s hs => ⟨(h s hs).1, fun e => (h s hs).2.1 e⟩
theorem and_ne_zero {x y : Nat} : x &&& y ≠ 0 ↔ ∃ t, x.testBit t = true ∧ y.testBit t = true := by
  constructor
  · intro h
    apply Classical.byContradiction
    intro hn
    apply h
    apply Nat.eq_of_testBit_eq
    intro t
    rw [Nat.testBit_and, Nat.zero_testBit]
    cases h1 : x.testBit t with
    | false => rfl
    | true =>
      cases h2 : y.testBit t with
      | false => rfl
      | true => exact absurd ⟨t, h1, h2⟩ hn
  · rintro ⟨t, h1, h2⟩ h
    have h3 : (x &&& y).testBit t = true := by rw [Nat.testBit_and, h1, h2]; rfl
    rw [h, Nat.zero_testBit] at h3
    cases h3
/-- Through a symbol, from a place. -/
theorem through_iff (h : Full g F u) (hg : Ok g) (hv : Lives g) (hu : u.length ≤ 24) {K : Nat} {s : Sy} {r : List Sy} (hs : okSy g s) (hr : RowG g r) {a : Nat} (ha : a ≤ u.length) :
    (((ofE F 0 u s a <<< a) % 4294967296) &&& fromN K g u r ≠ 0 ∨ (ofO F 0 u s a = true ∧ K = 2)) ↔ May K g u (s :: r) a := by
  have hsg := okSy_syg hg hs
  constructor
  · rintro (h1 | ⟨h1, rfl⟩)
    · obtain ⟨t, h2, h3⟩ := and_ne_zero.mp h1
      obtain ⟨_, h4, h5⟩ := (Sp.shl_bit _ _ _).mp h2
      obtain ⟨h6, h7⟩ := (ofE_com h hg hu hsg ha h4).mp h5
      obtain ⟨_, h8⟩ := fromN_bit.mp h3
      have e1 : u.drop a = part u a t ++ u.drop t := by
        have := Cf.part_append u h4 h6
        have e2 : part u t u.length = u.drop t := by rw [Sp.part_drop, List.take_of_length_le (by rw [List.length_drop]; omega)]
        have e3 : part u a u.length = u.drop a := by rw [Sp.part_drop, List.take_of_length_le (by rw [List.length_drop]; omega)]
        rw [e2, e3] at this
        exact this.symm
      by_cases hK : K = 2
      · subst hK
        obtain ⟨v, h9⟩ := may_two.mp h8
        exact may_two.mpr ⟨v, Cf.Cm.cons.mpr ⟨part u a t, u.drop t ++ v, by rw [e1, List.append_assoc], h7, h9⟩⟩
      · exact (may_one hK).mpr (Cf.Cm.cons.mpr ⟨part u a t, u.drop t, e1, h7, (may_one hK).mp h8⟩)
    · obtain ⟨v, h2⟩ := (ofO_com h hg hu hsg ha).mp h1
      obtain ⟨y, h3⟩ := hr.lives hv
      exact may_two.mpr ⟨v ++ y, Cf.Cm.cons.mpr ⟨u.drop a ++ v, y, by rw [List.append_assoc], h2, h3⟩⟩
  · -- what begins with x, then y
    have go : ∀ {x y : List Int}, u.drop a = x ++ y → Cm g [s] x → May K g u r (a + x.length) → ((ofE F 0 u s a <<< a) % 4294967296) &&& fromN K g u r ≠ 0 := by
      intro x y e h1 h2
      have hl : (u.drop a).length = x.length + y.length := by rw [e, List.length_append]
      rw [List.length_drop] at hl
      refine and_ne_zero.mpr ⟨a + x.length, ?_, fromN_bit.mpr ⟨by omega, h2⟩⟩
      refine (Sp.shl_bit _ _ _).mpr ⟨by omega, by omega, (ofE_com h hg hu hsg ha (by omega)).mpr ⟨by omega, ?_⟩⟩
      rw [Sp.part_drop, e, show a + x.length - a = x.length by omega, List.take_left']
      · exact h1
      · rfl
    have dr : ∀ {x y : List Int}, u.drop a = x ++ y → u.drop (a + x.length) = y := by
      intro x y e
      rw [← List.drop_drop, e, List.drop_left]
    intro hm
    by_cases hK : K = 2
    · subst hK
      obtain ⟨v, h1⟩ := may_two.mp hm
      obtain ⟨x, y, h2, h3, h4⟩ := Cf.Cm.cons.mp h1
      rcases List.append_eq_append_iff.mp h2 with ⟨m, e1, e2⟩ | ⟨m, e1, e2⟩
      · right
        refine ⟨(ofO_com h hg hu hsg ha).mpr ⟨m, by rw [← e1]; exact h3⟩, rfl⟩
      · left
        refine go e1 h3 (may_two.mpr ⟨v, ?_⟩)
        rw [dr e1, ← e2]; exact h4
    · left
      obtain ⟨x, y, h2, h3, h4⟩ := Cf.Cm.cons.mp ((may_one hK).mp hm)
      exact go h2 h3 ((may_one hK).mpr (by rw [dr h2]; exact h4))
end

/-- The productions of a nonterminal. -/
def ofL (ps : List Pr) (n : Int) : List Nat := (List.range ps.length).filter fun i => match ps[i]? with | some p => decide (p.left = n) | none => false
theorem mem_ofL {ps : List Pr} {n : Int} {i : Nat} : i ∈ ofL ps n ↔ ∃ p, ps[i]? = some p ∧ p.left = n := by
  unfold ofL
  rw [List.mem_filter, List.mem_range]
  constructor
  · rintro ⟨h1, h2⟩
    rw [List.getElem?_eq_getElem h1] at h2
    exact ⟨ps[i], List.getElem?_eq_getElem h1, of_decide_eq_true h2⟩
  · rintro ⟨p, h1, h2⟩
    have h3 : i < ps.length := by
      rcases Nat.lt_or_ge i ps.length with h | h
      · exact h
      · rw [List.getElem?_eq_none h] at h1; cases h1
    rw [h1]
    exact ⟨h3, decide_eq_true h2⟩
theorem ofL_up (ps : List Pr) (n : Int) : (ofL ps n).Pairwise (· < ·) := by
  unfold ofL
  exact List.Pairwise.filter _ List.pairwise_lt_range
/-- The right side of a production. -/
def rig (ps : List Pr) (i : Nat) : List Sy := (ps.getD i ⟨0, []⟩).right
theorem rig_at {ps : List Pr} {i : Nat} {p : Pr} (h : ps[i]? = some p) : rig ps i = p.right := by
  unfold rig
  rw [List.getD_eq_getElem?_getD, h]; rfl
/-- The productions that are tried, in their order: the fact's alone, where the word is at its end. -/
def opts (K : Nat) (ps : List Pr) (f : Nat) (atEnd : Bool) (n : Int) : List Nat :=
  if K = 1 then (ofL ps n).reverse else if K = 2 ∧ atEnd = true then (ofL ps n).filter fun i => decide (i = f) else ofL ps n
theorem opts_sub {K : Nat} {ps : List Pr} {f : Nat} {b : Bool} {n : Int} {i : Nat} (h : i ∈ opts K ps f b n) : i ∈ ofL ps n := by
  unfold opts at h
  split at h
  · exact List.mem_reverse.mp h
  · split at h
    · exact (List.mem_filter.mp h).1
    · exact h
/-- The production that is chosen. -/
noncomputable def pick (K : Nat) (g : Gm) (f : Nat → Nat) (u : List Int) (a : Nat) (n : Int) (r : List Sy) : Option Nat :=
  (opts K g.prods (f n.toNat) (decide (a = u.length)) n).find? fun i => mayB K g u (rig g.prods i ++ r) a
theorem pick_some {K : Nat} {g : Gm} {f : Nat → Nat} {u : List Int} {a : Nat} {n : Int} {r : List Sy} {i : Nat} (h : pick K g f u a n r = some i) : (∃ p, g.prods[i]? = some p ∧ p.left = n) ∧ May K g u (rig g.prods i ++ r) a := by
  unfold pick at h
  have h1 := List.find?_some h
  have h2 := List.mem_of_find?_eq_some h
  exact ⟨mem_ofL.mp (opts_sub h2), mayB_iff.mp h1⟩
/-- The facts name productions. -/
def Fits (g : Gm) (f : Nat → Nat) : Prop := ∀ n : Nat, (n : Int) < g.nons → ∃ p, g.prods[f n]? = some p ∧ p.left = (n : Int)
theorem rig_ok {g : Gm} (hg : Ok g) {i : Nat} {p : Pr} (h : g.prods[i]? = some p) : RowG g (rig g.prods i) := by
  rw [rig_at h]
  intro s hs
  exact (hg.2.2.2.2.2.2.2 p (List.mem_of_getElem? h)).2.2.2 s hs
theorem may_end {g : Gm} (hv : Lives g) {u : List Int} {r : List Sy} (hr : RowG g r) : May 2 g u r u.length := by
  obtain ⟨w, h⟩ := hr.lives hv
  exact may_two.mpr ⟨w, by rw [List.drop_length]; exact h⟩
/-- Where it may come, a production is chosen. -/
theorem pick_is {K : Nat} {g : Gm} {f : Nat → Nat} (hg : Ok g) (hv : Lives g) (hf : Fits g f) {u : List Int} {a : Nat} {s : Sy} {r : List Sy} (hs : s.non = true) (hr : RowG g (s :: r)) (hm : May K g u (s :: r) a) : ∃ i, pick K g f u a s.n r = some i := by
  have hmem : ∃ i, i ∈ opts K g.prods (f s.n.toNat) (decide (a = u.length)) s.n ∧ mayB K g u (rig g.prods i ++ r) a = true := by
    by_cases hE : K = 2 ∧ a = u.length
    · obtain ⟨rfl, rfl⟩ := hE
      have h0 := hr s (List.mem_cons_self ..)
      have hn := h0.2.1 hs
      have e0 : ((s.n.toNat : Nat) : Int) = s.n := Int.toNat_of_nonneg h0.1
      obtain ⟨p, h1, h2⟩ := hf s.n.toNat (by rw [e0]; exact hn)
      rw [e0] at h2
      refine ⟨f s.n.toNat, ?_, mayB_iff.mpr (may_end hv ?_)⟩
      · unfold opts
        rw [if_neg (by decide), if_pos ⟨rfl, by simp⟩, List.mem_filter]
        exact ⟨mem_ofL.mpr ⟨p, h1, h2⟩, by simp⟩
      · intro x hx
        rcases List.mem_append.mp hx with hx | hx
        · exact rig_ok hg h1 x hx
        · exact hr x (List.mem_cons_of_mem _ hx)
    · have hop : ∀ i, i ∈ ofL g.prods s.n → i ∈ opts K g.prods (f s.n.toNat) (decide (a = u.length)) s.n := by
        intro i hi
        unfold opts
        by_cases h1 : K = 1
        · rw [if_pos h1]; exact List.mem_reverse.mpr hi
        · rw [if_neg h1, if_neg (by rintro ⟨h2, h3⟩; exact hE ⟨h2, of_decide_eq_true h3⟩)]; exact hi
      have key : ∀ x, Cm g (s :: r) x → ∃ i, i ∈ ofL g.prods s.n ∧ Cm g (rig g.prods i ++ r) x := by
        intro x hx
        obtain ⟨p, x1, x2, rfl, h2, h3, h4, h5⟩ := hx.non_inv hs
        obtain ⟨i, hi⟩ := List.mem_iff_getElem?.mp h2
        exact ⟨i, mem_ofL.mpr ⟨p, hi, h3⟩, by rw [rig_at hi]; exact h4.append h5⟩
      by_cases hK : K = 2
      · subst hK
        obtain ⟨v, h1⟩ := may_two.mp hm
        obtain ⟨i, h2, h3⟩ := key _ h1
        exact ⟨i, hop i h2, mayB_iff.mpr (may_two.mpr ⟨v, h3⟩)⟩
      · obtain ⟨i, h2, h3⟩ := key _ ((may_one hK).mp hm)
        exact ⟨i, hop i h2, mayB_iff.mpr ((may_one hK).mpr h3)⟩
  obtain ⟨i, h1, h2⟩ := hmem
  unfold pick
  cases e : List.find? (fun i => mayB K g u (rig g.prods i ++ r) a) (opts K g.prods (f s.n.toNat) (decide (a = u.length)) s.n) with
  | some i => exact ⟨i, rfl⟩
  | none =>
    have := List.find?_eq_none.mp e i h1
    exact absurd h2 this

/-- What is next: the place, the first nonterminal, and what is behind it. -/
def nextOf (m : Nat) : Nat → List Sy → Nat × Option (Sy × List Sy)
  | a, [] => (a, none)
  | a, s :: r => if s.non = true then (a, some (s, r)) else nextOf m (if a < m then a + 1 else a) r
theorem nextOf_non {m a : Nat} {s : Sy} {r : List Sy} (h : s.non = true) : nextOf m a (s :: r) = (a, some (s, r)) := by unfold nextOf; rw [if_pos h]
theorem nextOf_tok {m a : Nat} {s : Sy} {r : List Sy} (h : s.non = false) : nextOf m a (s :: r) = nextOf m (if a < m then a + 1 else a) r := by
  conv => lhs; unfold nextOf
  rw [if_neg (by rw [h]; decide)]
theorem nextOf_is {m : Nat} : ∀ {l : List Sy} {a a' : Nat} {s : Sy} {r : List Sy}, nextOf m a l = (a', some (s, r)) → s.non = true ∧ ∃ pre, l = pre ++ s :: r
  | [], a, a', s, r, h => by cases h
  | x :: l, a, a', s, r, h => by
    cases e : x.non with
    | true =>
      rw [nextOf_non e] at h
      cases h
      exact ⟨e, [], rfl⟩
    | false =>
      rw [nextOf_tok e] at h
      obtain ⟨h1, pre, h2⟩ := nextOf_is h
      exact ⟨h1, x :: pre, by rw [h2]; rfl⟩
theorem may_tok {K : Nat} {g : Gm} {u : List Int} {s : Sy} {r : List Sy} {a : Nat} (hs : s.non = false) (ha : a ≤ u.length) (hm : May K g u (s :: r) a) :
    (if a < u.length then a + 1 else a) ≤ u.length ∧ May K g u r (if a < u.length then a + 1 else a) ∧ (a < u.length → u.drop a = s.n :: u.drop (a + 1)) ∧ (K ≠ 2 → a < u.length) := by
  by_cases hl : a < u.length
  · rw [if_pos hl]
    have e := List.drop_eq_getElem_cons hl
    by_cases hK : K = 2
    · subst hK
      obtain ⟨v, h⟩ := may_two.mp hm
      obtain ⟨y, h1, h2⟩ := h.tok_inv hs
      rw [e, List.cons_append] at h1
      injection h1 with h3 h4
      exact ⟨by omega, may_two.mpr ⟨v, by rw [h4]; exact h2⟩, fun _ => by rw [e, h3], fun h => absurd rfl h⟩
    · obtain ⟨y, h1, h2⟩ := ((may_one hK).mp hm).tok_inv hs
      rw [e] at h1
      injection h1 with h3 h4
      exact ⟨by omega, (may_one hK).mpr (by rw [h4]; exact h2), fun _ => by rw [e, h3], fun _ => hl⟩
  · rw [if_neg hl]
    by_cases hK : K = 2
    · subst hK
      obtain ⟨v, h⟩ := may_two.mp hm
      obtain ⟨y, h1, h2⟩ := h.tok_inv hs
      refine ⟨ha, may_two.mpr ⟨y, ?_⟩, fun h => absurd h hl, fun h => absurd rfl h⟩
      rw [List.drop_eq_nil_of_le (by omega)]
      exact h2
    · obtain ⟨y, h1, h2⟩ := ((may_one hK).mp hm).tok_inv hs
      rw [List.drop_eq_nil_of_le (by omega)] at h1
      exact absurd h1 (by simp)
/-- Behind the tokens it may come still. -/
theorem next_may {K : Nat} {g : Gm} {u : List Int} : ∀ {l : List Sy} {a a' : Nat} {s : Sy} {r : List Sy}, a ≤ u.length → May K g u l a → nextOf u.length a l = (a', some (s, r)) → a' ≤ u.length ∧ May K g u (s :: r) a'
  | [], a, a', s, r, _, _, h => by cases h
  | x :: l, a, a', s, r, ha, hm, h => by
    cases e : x.non with
    | true =>
      rw [nextOf_non e] at h
      cases h
      exact ⟨ha, hm⟩
    | false =>
      rw [nextOf_tok e] at h
      obtain ⟨h1, h2, _⟩ := may_tok e ha hm
      exact next_may h1 h2 h

/-- The derivation that is told: none, if it has more productions than may be. -/
noncomputable def lead (K : Nat) (g : Gm) (f : Nat → Nat) (u : List Int) : Nat → Nat → List Sy → Option (List Nat)
  | 0, a, l => match nextOf u.length a l with
    | (_, none) => some []
    | (_, some _) => none
  | k + 1, a, l => match nextOf u.length a l with
    | (_, none) => some []
    | (a', some (s, r)) => match pick K g f u a' s.n r with
      | none => some []
      | some i => (lead K g f u k a' (rig g.prods i ++ r)).map (i :: ·)
section
variable {K : Nat} {g : Gm} {f : Nat → Nat} {u : List Int}
theorem lead_end {k a a' : Nat} {l : List Sy} (h : nextOf u.length a l = (a', none)) : lead K g f u k a l = some [] := by
  cases k <;> (unfold lead; rw [h])
theorem lead_big {a a' : Nat} {l : List Sy} {x : Sy × List Sy} (h : nextOf u.length a l = (a', some x)) : lead K g f u 0 a l = none := by
  unfold lead; rw [h]
theorem lead_step {k a a' i : Nat} {l : List Sy} {s : Sy} {r : List Sy} (h : nextOf u.length a l = (a', some (s, r))) (hp : pick K g f u a' s.n r = some i) : lead K g f u (k + 1) a l = (lead K g f u k a' (rig g.prods i ++ r)).map (i :: ·) := by
  conv => lhs; unfold lead
  rw [h]
  simp only [hp]
theorem RowG.behind {l pre r : List Sy} {s : Sy} (hr : RowG g l) (h : l = pre ++ s :: r) : RowG g (s :: r) := fun x hx => hr x (by rw [h]; exact List.mem_append_right _ hx)
theorem RowG.turn {s : Sy} {r : List Sy} (hg : Ok g) (hr : RowG g (s :: r)) {i : Nat} {p : Pr} (h : g.prods[i]? = some p) : RowG g (rig g.prods i ++ r) := fun x hx => by
  rcases List.mem_append.mp hx with hx | hx
  · exact rig_ok hg h x hx
  · exact hr x (List.mem_cons_of_mem _ hx)
/-- A walk over what is told: by how many productions are left. -/
theorem lead_rec (hg : Ok g) (hv : Lives g) (hf : Fits g f) {C : Nat → List Sy → List Nat → Prop}
    (hend : ∀ a l a', a ≤ u.length → May K g u l a → nextOf u.length a l = (a', none) → C a l [])
    (hstep : ∀ a l a' s r i p m, a ≤ u.length → May K g u l a → nextOf u.length a l = (a', some (s, r)) → a' ≤ u.length → May K g u (s :: r) a' → s.non = true → pick K g f u a' s.n r = some i → g.prods[i]? = some p → p.left = s.n → C a' (p.right ++ r) m → C a l (i :: m)) :
    ∀ {k a : Nat} {l : List Sy} {m : List Nat}, a ≤ u.length → RowG g l → May K g u l a → lead K g f u k a l = some m → C a l m
  | k, a, l, m, ha, hr, hm, h => by
    obtain ⟨⟨a', x⟩, hx⟩ : ∃ z, nextOf u.length a l = z := ⟨_, rfl⟩
    cases x with
    | none =>
      rw [lead_end hx] at h
      cases h
      exact hend a l a' ha hm hx
    | some x =>
      obtain ⟨s, r⟩ := x
      cases k with
      | zero => rw [lead_big hx] at h; cases h
      | succ k =>
        obtain ⟨h1, pre, h2⟩ := nextOf_is hx
        obtain ⟨h3, h4⟩ := next_may ha hm hx
        have hr' := hr.behind h2
        obtain ⟨i, hi⟩ := pick_is hg hv hf h1 hr' h4
        obtain ⟨⟨p, hp, hl⟩, hm'⟩ := pick_some hi
        rw [lead_step hx hi, Option.map_eq_some_iff] at h
        obtain ⟨m', h5, rfl⟩ := h
        have ih := lead_rec hg hv hf hend hstep h3 (hr'.turn hg hp) hm' h5
        rw [rig_at hp] at ih
        exact hstep a l a' s r i p m' ha hm hx h3 h4 h1 hi hp hl ih
/-- A derivation from behind the tokens is one from ahead of them. -/
theorem next_dr : ∀ {l : List Sy} {a a' : Nat} {s : Sy} {r : List Sy} {m : List Nat} {v : List Int}, a ≤ u.length → May K g u l a → nextOf u.length a l = (a', some (s, r)) → Dr g.prods m (s :: r) v → u.drop a' <+: v → (K ≠ 2 → v = u.drop a') →
    ∃ v', Dr g.prods m l v' ∧ u.drop a <+: v' ∧ (K ≠ 2 → v' = u.drop a)
  | [], a, a', s, r, m, v, _, _, h, _, _, _ => by cases h
  | x :: l, a, a', s, r, m, v, ha, hm, h, hd, hv, hw => by
    cases e : x.non with
    | true =>
      rw [nextOf_non e] at h
      cases h
      exact ⟨v, hd, hv, hw⟩
    | false =>
      rw [nextOf_tok e] at h
      obtain ⟨h1, h2, h3, h4⟩ := may_tok e ha hm
      obtain ⟨v', h5, h6, h7⟩ := next_dr h1 h2 h hd hv hw
      refine ⟨x.n :: v', .tok e h5, ?_, fun hK => ?_⟩
      · by_cases hl : a < u.length
        · rw [if_pos hl] at h6
          rw [h3 hl]
          obtain ⟨t, h6⟩ := h6
          exact ⟨t, by rw [← h6]; rfl⟩
        · rw [List.drop_eq_nil_of_le (by omega)]
          exact List.nil_prefix
      · have hl := h4 hK
        rw [h3 hl, h7 hK, if_pos hl]
theorem end_dr : ∀ {l : List Sy} {a a' : Nat}, a ≤ u.length → May K g u l a → nextOf u.length a l = (a', none) → ∃ v', Dr g.prods [] l v' ∧ u.drop a <+: v' ∧ (K ≠ 2 → v' = u.drop a)
  | [], a, a', ha, hm, _ => by
    have := may_nil.mp hm
    exact ⟨[], .nil, by rw [List.drop_eq_nil_of_le this]; exact List.nil_prefix, fun _ => (List.drop_eq_nil_of_le this).symm⟩
  | x :: l, a, a', ha, hm, h => by
    cases e : x.non with
    | true => rw [nextOf_non e] at h; cases h
    | false =>
      rw [nextOf_tok e] at h
      obtain ⟨h1, h2, h3, h4⟩ := may_tok e ha hm
      obtain ⟨v', h5, h6, h7⟩ := end_dr h1 h2 h
      refine ⟨x.n :: v', .tok e h5, ?_, fun hK => ?_⟩
      · by_cases hl : a < u.length
        · rw [if_pos hl] at h6
          rw [h3 hl]
          obtain ⟨t, h6⟩ := h6
          exact ⟨t, by rw [← h6]; rfl⟩
        · rw [List.drop_eq_nil_of_le (by omega)]
          exact List.nil_prefix
      · have hl := h4 hK
        rw [h3 hl, h7 hK, if_pos hl]
/-- WHAT IS TOLD IS A DERIVATION. -/
theorem lead_dr (hg : Ok g) (hv : Lives g) (hf : Fits g f) {k a : Nat} {l : List Sy} {m : List Nat} (ha : a ≤ u.length) (hr : RowG g l) (hm : May K g u l a) (h : lead K g f u k a l = some m) :
    ∃ v, Dr g.prods m l v ∧ u.drop a <+: v ∧ (K ≠ 2 → v = u.drop a) :=
  lead_rec (C := fun a l m => ∃ v, Dr g.prods m l v ∧ u.drop a <+: v ∧ (K ≠ 2 → v = u.drop a)) hg hv hf (fun _ _ _ ha hm h => end_dr ha hm h)
    (fun _ _ _ _ _ _ _ _ ha hm hx _ _ hs _ hp hl ⟨_, hd, h1, h2⟩ => next_dr ha hm hx (.non hs hp hl hd) h1 h2) ha hr hm h

/-- Which production is chosen, by the word that is left alone. -/
noncomputable def pickW (K : Nat) (g : Gm) (s : Sy) (r : List Sy) (w : List Int) : Option Nat :=
  (if K = 1 then (ofL g.prods s.n).reverse else ofL g.prods s.n).find? fun i => mayB 0 g w (rig g.prods i ++ r) 0
theorem may_drop (hK : K ≠ 2) {r : List Sy} {a : Nat} : mayB K g u r a = mayB 0 g (u.drop a) r 0 := by
  rw [Bool.eq_iff_iff, mayB_iff, mayB_iff, may_one hK, may_one (by decide), List.drop_zero]
theorem pick_word (hK : K ≠ 2) {a : Nat} {s : Sy} {r : List Sy} : pick K g f u a s.n r = pickW K g s r (u.drop a) := by
  unfold pick pickW opts
  have e : (fun i => mayB K g u (rig g.prods i ++ r) a) = fun i => mayB 0 g (u.drop a) (rig g.prods i ++ r) 0 := funext fun i => may_drop hK
  rw [e]
  by_cases h1 : K = 1
  · rw [if_pos h1, if_pos h1]
  · rw [if_neg h1, if_neg h1, if_neg (fun h => hK h.1)]
theorem next_by (hK : K ≠ 2) : ∀ {l : List Sy} {a a' : Nat} {s : Sy} {r : List Sy} {m : List Nat}, a ≤ u.length → May K g u l a → nextOf u.length a l = (a', some (s, r)) → Dv.By g.prods (pickW K g) m (s :: r) (u.drop a') → Dv.By g.prods (pickW K g) m l (u.drop a)
  | [], a, a', s, r, m, _, _, h, _ => by cases h
  | x :: l, a, a', s, r, m, ha, hm, h, hd => by
    cases e : x.non with
    | true =>
      rw [nextOf_non e] at h
      cases h
      exact hd
    | false =>
      rw [nextOf_tok e] at h
      obtain ⟨h1, h2, h3, h4⟩ := may_tok e ha hm
      have hl := h4 hK
      rw [if_pos hl] at h1 h2 h
      rw [h3 hl]
      exact .tok e (next_by hK h1 h2 h hd)
theorem end_by (hK : K ≠ 2) : ∀ {l : List Sy} {a a' : Nat}, a ≤ u.length → May K g u l a → nextOf u.length a l = (a', none) → Dv.By g.prods (pickW K g) [] l (u.drop a)
  | [], a, a', ha, hm, _ => by
    rw [List.drop_eq_nil_of_le (may_nil.mp hm)]; exact .nil
  | x :: l, a, a', ha, hm, h => by
    cases e : x.non with
    | true => rw [nextOf_non e] at h; cases h
    | false =>
      rw [nextOf_tok e] at h
      obtain ⟨h1, h2, h3, h4⟩ := may_tok e ha hm
      have hl := h4 hK
      rw [if_pos hl] at h1 h2 h
      rw [h3 hl]
      exact .tok e (end_by hK h1 h2 h)
theorem lead_by (hg : Ok g) (hv : Lives g) (hf : Fits g f) (hK : K ≠ 2) {k a : Nat} {l : List Sy} {m : List Nat} (ha : a ≤ u.length) (hr : RowG g l) (hm : May K g u l a) (h : lead K g f u k a l = some m) : Dv.By g.prods (pickW K g) m l (u.drop a) :=
  lead_rec (C := fun a l m => Dv.By g.prods (pickW K g) m l (u.drop a)) hg hv hf (fun _ _ _ ha hm h => end_by hK ha hm h)
    (fun _ _ _ _ _ _ _ _ ha hm hx _ _ hs hi hp hl hd => next_by hK ha hm hx (.non hs (by rw [← pick_word hK (f := f)]; exact hi) hp hl hd)) ha hr hm h
theorem find_first {l : List Nat} (hl : l.Pairwise (· < ·)) {p : Nat → Bool} {i j : Nat} (h : l.find? p = some i) (hj : j ∈ l) (hp : p j = true) : i ≤ j := by
  induction l with
  | nil => cases h
  | cons x l ih =>
    rw [List.pairwise_cons] at hl
    rw [List.find?_cons] at h
    cases e : p x with
    | true =>
      rw [e] at h
      injection h with h
      subst h
      rcases List.mem_cons.mp hj with h | h
      · omega
      · exact Nat.le_of_lt (hl.1 j h)
    | false =>
      rw [e] at h
      rcases List.mem_cons.mp hj with h2 | h2
      · subst h2; rw [hp] at e; cases e
      · exact ih hl.2 h h2
theorem find_last {l : List Nat} (hl : l.Pairwise (· < ·)) {p : Nat → Bool} {i j : Nat} (h : l.reverse.find? p = some i) (hj : j ∈ l) (hp : p j = true) : j ≤ i := by
  have hr : l.reverse.Pairwise (fun a b => b < a) := List.pairwise_reverse.mpr hl
  have hj' : j ∈ l.reverse := List.mem_reverse.mpr hj
  generalize l.reverse = q at h hr hj'
  clear hl hj
  induction q with
  | nil => cases h
  | cons x l ih =>
    rw [List.pairwise_cons] at hr
    rw [List.find?_cons] at h
    cases e : p x with
    | true =>
      rw [e] at h
      injection h with h
      subst h
      rcases List.mem_cons.mp hj' with h | h
      · omega
      · exact Nat.le_of_lt (hr.1 j h)
    | false =>
      rw [e] at h
      rcases List.mem_cons.mp hj' with h2 | h2
      · subst h2; rw [hp] at e; cases e
      · exact ih h hr.2 h2
theorem dr_may {s : Sy} {r : List Sy} {w : List Int} {j : Nat} {p : Pr} {m : List Nat} (hj : g.prods[j]? = some p) (hl : p.left = s.n) (hd : Dr g.prods m (p.right ++ r) w) : j ∈ ofL g.prods s.n ∧ mayB 0 g w (rig g.prods j ++ r) 0 = true :=
  ⟨mem_ofL.mpr ⟨p, hj, hl⟩, mayB_iff.mpr ((may_one (by decide)).mpr (by rw [List.drop_zero, rig_at hj]; exact hd.cm))⟩
/-- NO DERIVATION STANDS AHEAD OF THE LEAST ONE. -/
theorem lead_least (hg : Ok g) (hv : Lives g) (hf : Fits g f) {k a : Nat} {l : List Sy} {m : List Nat} (ha : a ≤ u.length) (hr : RowG g l) (hm : May 0 g u l a) (h : lead 0 g f u k a l = some m) {o : List Nat} (ho : Dr g.prods o l (u.drop a)) : Dv.less (Dv.ints o) (Dv.ints m) = false :=
  (lead_by hg hv hf (by decide) ha hr hm h).least (fun s r w i j p m hi hj hl hd => by
    unfold pickW at hi
    rw [if_neg (by decide)] at hi
    obtain ⟨h1, h2⟩ := dr_may hj hl hd
    exact find_first (ofL_up _ _) hi h1 h2) ho
/-- OR BEHIND THE GREATEST. -/
theorem lead_greatest (hg : Ok g) (hv : Lives g) (hf : Fits g f) {k a : Nat} {l : List Sy} {m : List Nat} (ha : a ≤ u.length) (hr : RowG g l) (hm : May 1 g u l a) (h : lead 1 g f u k a l = some m) {o : List Nat} (ho : Dr g.prods o l (u.drop a)) : Dv.less (Dv.ints m) (Dv.ints o) = false :=
  (lead_by hg hv hf (by decide) ha hr hm h).greatest (fun s r w i j p m hi hj hl hd => by
    unfold pickW at hi
    rw [if_pos rfl] at hi
    obtain ⟨h1, h2⟩ := dr_may hj hl hd
    exact find_last (ofL_up _ _) hi h1 h2) ho
theorem lead_len : ∀ {k a : Nat} {l : List Sy} {m : List Nat}, lead K g f u k a l = some m → m.length ≤ k
  | 0, a, l, m, h => by
    unfold lead at h
    split at h
    · cases h; exact Nat.le_refl _
    · cases h
  | k + 1, a, l, m, h => by
    unfold lead at h
    split at h
    · cases h; exact Nat.zero_le _
    · split at h
      · cases h; exact Nat.zero_le _
      · rw [Option.map_eq_some_iff] at h
        obtain ⟨m', h5, rfl⟩ := h
        have := lead_len h5
        rw [List.length_cons]; omega
end
end Go.Proofs.Ytckckejgocbkkaa.Ld
