/- Plain facts on items: what stands at each place of a word. No program is named here. -/
import Derived.Test.YtckckejgocbkkaaPlainS
namespace Go.Proofs.Ytckckejgocbkkaa.Ch
open Gr (Sy Pr Gm okSy okPr Ok)
open Cf (Cm part)

/-- An item: a production, a place in it, and the place in the word at which it began. -/
structure Im where
  prod : Nat
  dot : Nat
  frm : Nat
  deriving DecidableEq

/-- The items of a word, place by place: the least. -/
inductive It (g : Gm) (w : List Int) : Nat → Im → Prop
  | start {i : Nat} {p : Pr} : g.prods[i]? = some p → p.left = g.start → It g w 0 ⟨i, 0, 0⟩
  | ahead {a : Nat} {x : Im} {p q : Pr} {s : Sy} {j : Nat} : It g w a x → g.prods[x.prod]? = some p → p.right[x.dot]? = some s → s.non = true → g.prods[j]? = some q → q.left = s.n → It g w a ⟨j, 0, a⟩
  | over {a : Nat} {x : Im} {p : Pr} {s : Sy} : It g w a x → g.prods[x.prod]? = some p → p.right[x.dot]? = some s → s.non = false → w[a]? = some s.n → It g w (a + 1) ⟨x.prod, x.dot + 1, x.frm⟩
  | whole {a : Nat} {x y : Im} {p q : Pr} {s : Sy} : It g w a x → g.prods[x.prod]? = some p → x.dot = p.right.length → It g w x.frm y → g.prods[y.prod]? = some q → q.right[y.dot]? = some s → s.non = true → s.n = p.left → It g w a ⟨y.prod, y.dot + 1, y.frm⟩

theorem lt_of_get {α : Type} {l : List α} {i : Nat} {x : α} (h : l[i]? = some x) : i < l.length := by
  rcases Nat.lt_or_ge i l.length with h1 | h1
  · exact h1
  · rw [List.getElem?_eq_none h1] at h; exact absurd h (by simp)
theorem drop_get {α : Type} {l : List α} {i : Nat} {x : α} (h : l[i]? = some x) : l.drop i = x :: l.drop (i + 1) := by
  have hi := lt_of_get h
  rw [List.drop_eq_getElem_cons hi]
  rw [List.getElem?_eq_getElem hi] at h
  injection h with h
  rw [h]
theorem take_get {α : Type} {l : List α} {i : Nat} {x : α} (h : l[i]? = some x) : l.take (i + 1) = l.take i ++ [x] := by
  rw [List.take_add_one, h]; rfl

/-- Each item says what comes: its symbols so far, from where it began to where it stands. -/
theorem It.means {g : Gm} {w : List Int} {a : Nat} {x : Im} (h : It g w a x) : x.frm ≤ a ∧ a ≤ w.length ∧ ∃ p, g.prods[x.prod]? = some p ∧ x.dot ≤ p.right.length ∧ Cm g (p.right.take x.dot) (part w x.frm a) := by
  induction h with
  | @start i p hi _ => exact ⟨Nat.le_refl _, Nat.zero_le _, p, hi, Nat.zero_le _, by rw [Cf.part_self]; exact .nil⟩
  | @ahead a x p q s j _ _ _ _ hj _ ih => exact ⟨Nat.le_refl _, ih.2.1, q, hj, Nat.zero_le _, by rw [Cf.part_self]; exact .nil⟩
  | @over a x p s _ hp hs hn hw ih =>
    obtain ⟨h1, h2, p', hp', h3, h4⟩ := ih
    rw [hp] at hp'
    injection hp' with hp'
    subst hp'
    have hl := lt_of_get hs
    have ha := lt_of_get hw
    refine ⟨by show x.frm ≤ a + 1; omega, ha, p, hp, hl, ?_⟩
    show Cm g (p.right.take (x.dot + 1)) (part w x.frm (a + 1))
    rw [take_get hs, ← Cf.part_append w h1 (Nat.le_succ a)]
    refine h4.append ?_
    rw [Cf.part_one hw]
    have := Cm.tok (g := g) hn .nil
    exact this
  | @whole a x y p q s _ hp hd _ hq hs hn hl ih1 ih2 =>
    obtain ⟨h1, h2, p', hp', h3, h4⟩ := ih1
    obtain ⟨h5, h6, q', hq', h7, h8⟩ := ih2
    rw [hp] at hp'
    injection hp' with hp'
    subst hp'
    rw [hq] at hq'
    injection hq' with hq'
    subst hq'
    refine ⟨by show y.frm ≤ a; omega, h2, q, hq, lt_of_get hs, ?_⟩
    show Cm g (q.right.take (y.dot + 1)) (part w y.frm a)
    rw [take_get hs, ← Cf.part_append w h5 h1]
    refine h8.append ?_
    rw [hd, List.take_length] at h4
    have := Cm.non (g := g) hn (List.mem_of_getElem? hp) hl.symm h4 .nil
    rw [List.append_nil] at this
    exact this
/-- What comes of the rest of an item, and of what is behind it, makes the word go on to one that comes. -/
theorem It.goes {g : Gm} (hg : Ok g) {w : List Int} {a : Nat} {x : Im} (h : It g w a x) : ∃ p l, g.prods[x.prod]? = some p ∧ (∀ s ∈ l, okSy g s) ∧ ∀ u, Cm g (p.right.drop x.dot ++ l) u → Cm g [⟨true, g.start⟩] (part w 0 a ++ u) := by
  induction h with
  | @start i p hi hl =>
    refine ⟨p, [], hi, by simp, ?_⟩
    intro u hu
    rw [Cf.part_self]
    have hu : Cm g (p.right ++ []) u := hu
    rw [List.append_nil] at hu
    exact Cm.one.mpr ⟨p, List.mem_of_getElem? hi, hl, hu⟩
  | @ahead a x p q s j _ hp hs hn hj hl ih =>
    obtain ⟨p', l, hp', hok, hgo⟩ := ih
    rw [hp] at hp'
    injection hp' with hp'
    subst hp'
    refine ⟨q, p.right.drop (x.dot + 1) ++ l, hj, ?_, ?_⟩
    · intro y hy
      rcases List.mem_append.mp hy with hy | hy
      · exact (hg.2.2.2.2.2.2.2 p (List.mem_of_getElem? hp)).2.2.2 y (List.mem_of_mem_drop hy)
      · exact hok y hy
    · intro u hu
      have hu : Cm g (q.right ++ (p.right.drop (x.dot + 1) ++ l)) u := hu
      obtain ⟨u1, u2, rfl, h1, h2⟩ := hu.split
      apply hgo
      rw [drop_get hs]
      exact .non hn (List.mem_of_getElem? hj) hl h1 h2
  | @over a x p s _ hp hs hn hw ih =>
    obtain ⟨p', l, hp', hok, hgo⟩ := ih
    rw [hp] at hp'
    injection hp' with hp'
    subst hp'
    refine ⟨p, l, hp, hok, ?_⟩
    intro u hu
    have h1 := hgo (s.n :: u) (by rw [drop_get hs]; exact .tok hn hu)
    rw [← Cf.part_append w (Nat.zero_le a) (Nat.le_succ a), Cf.part_one hw, List.append_assoc]
    exact h1
  | @whole a x y p q s hx hp hd _ hq hs hn hl ih1 ih2 =>
    obtain ⟨q', l, hq', hok, hgo⟩ := ih2
    rw [hq] at hq'
    injection hq' with hq'
    subst hq'
    obtain ⟨h1, h2, p', hp', h3, h4⟩ := hx.means
    rw [hp] at hp'
    injection hp' with hp'
    subst hp'
    rw [hd, List.take_length] at h4
    refine ⟨q, l, hq, hok, ?_⟩
    intro u hu
    have := hgo (part w x.frm a ++ u) (by rw [drop_get hs]; exact .non hn (List.mem_of_getElem? hp) hl.symm h4 hu)
    rw [← List.append_assoc, Cf.part_append w (Nat.zero_le _) h1] at this
    exact this

/-- Sets that have all that follows, up to some place. -/
def Has (g : Gm) (w : List Int) (last : Nat) (S : Nat → Im → Prop) : Prop :=
  (∀ i p, g.prods[i]? = some p → p.left = g.start → S 0 ⟨i, 0, 0⟩) ∧
  (∀ a x p s j q, a ≤ last → S a x → g.prods[x.prod]? = some p → p.right[x.dot]? = some s → s.non = true → g.prods[j]? = some q → q.left = s.n → S a ⟨j, 0, a⟩) ∧
  (∀ a x p s, a + 1 ≤ last → S a x → g.prods[x.prod]? = some p → p.right[x.dot]? = some s → s.non = false → w[a]? = some s.n → S (a + 1) ⟨x.prod, x.dot + 1, x.frm⟩) ∧
  (∀ a x y p q s, a ≤ last → S a x → x.frm ≤ a → g.prods[x.prod]? = some p → x.dot = p.right.length → S x.frm y → g.prods[y.prod]? = some q → q.right[y.dot]? = some s → s.non = true → s.n = p.left → S a ⟨y.prod, y.dot + 1, y.frm⟩)
theorem It.has (g : Gm) (w : List Int) (last : Nat) : Has g w last (It g w) :=
  ⟨fun _ _ h1 h2 => .start h1 h2, fun _ _ _ _ _ _ _ h h1 h2 h3 h4 h5 => .ahead h h1 h2 h3 h4 h5, fun _ _ _ _ _ h h1 h2 h3 h4 => .over h h1 h2 h3 h4, fun _ _ _ _ _ _ _ h _ h1 h2 h3 h4 h5 h6 h7 => .whole h h1 h2 h3 h4 h5 h6 h7⟩
/-- Such sets have all items of the word, up to that place. -/
theorem It.least {g : Gm} {w : List Int} {last : Nat} {S : Nat → Im → Prop} (hS : Has g w last S) {a : Nat} {x : Im} (h : It g w a x) : a ≤ last → S a x := by
  induction h with
  | start h1 h2 => intro _; exact hS.1 _ _ h1 h2
  | ahead _ h1 h2 h3 h4 h5 ih => intro ha; exact hS.2.1 _ _ _ _ _ _ ha (ih ha) h1 h2 h3 h4 h5
  | @over a x p s _ h1 h2 h3 h4 ih => intro ha; exact hS.2.2.1 a x p s ha (ih (by omega)) h1 h2 h3 h4
  | @whole a x y p q s hx h1 h2 _ h3 h4 h5 h6 ih1 ih2 =>
    intro ha
    have := (hx.means).1
    exact hS.2.2.2 a x y p q s ha (ih1 ha) this h1 h2 (ih2 (by omega)) h3 h4 h5 h6

/-- What comes of the next symbols of an item leads on. -/
theorem It.come {g : Gm} {w : List Int} {l : List Sy} {u : List Int} (h : Cm g l u) : ∀ {a b : Nat} {x : Im} {p : Pr} {r : List Sy}, It g w a x → g.prods[x.prod]? = some p → p.right.drop x.dot = l ++ r → a ≤ b → b ≤ w.length → part w a b = u → It g w b ⟨x.prod, x.dot + l.length, x.frm⟩ := by
  induction h with
  | nil =>
    intro a b x p r hx _ _ hab hb e
    have h1 := Cf.part_length (a := a) hb
    rw [e] at h1
    have h1 : 0 = b - a := h1
    obtain rfl : a = b := by omega
    exact hx
  | @tok s l v hs _ ih =>
    intro a b x p r hx hp hd hab hb e
    obtain ⟨h1, h2, h3⟩ := Cf.part_cons hb e
    have hg : p.right[x.dot]? = some s := by rw [← List.head?_drop, hd]; rfl
    have h4 := It.over hx hp hg hs h1
    have h5 : p.right.drop (x.dot + 1) = l ++ r := by
      have := drop_get hg
      rw [hd] at this
      injection this with _ this
      exact this.symm
    have := ih h4 hp h5 h3 hb h2
    show It g w b ⟨x.prod, x.dot + (l.length + 1), x.frm⟩
    rw [show x.dot + (l.length + 1) = x.dot + 1 + l.length by omega]
    exact this
  | @non s l u v p' hs hp' hl hr _ ih1 ih2 =>
    intro a b x p r hx hp hd hab hb e
    obtain ⟨c, h1, h2, h3, h4⟩ := Cf.part_split hab hb e
    have hg : p.right[x.dot]? = some s := by rw [← List.head?_drop, hd]; rfl
    obtain ⟨j, hj⟩ := List.mem_iff_getElem?.mp hp'
    have h5 := It.ahead hx hp hg hs hj hl
    have h6 := ih1 (r := []) h5 hj (by rw [List.append_nil]; rfl) h1 (by omega) h3
    have h6 : It g w c ⟨j, 0 + p'.right.length, a⟩ := h6
    rw [Nat.zero_add] at h6
    have h7 := It.whole h6 hj rfl hx hp hg hs hl.symm
    have h5 : p.right.drop (x.dot + 1) = l ++ r := by
      have := drop_get hg
      rw [hd] at this
      injection this with _ this
      exact this.symm
    have := ih2 h7 hp h5 h2 hb h4
    show It g w b ⟨x.prod, x.dot + (l.length + 1), x.frm⟩
    rw [show x.dot + (l.length + 1) = x.dot + 1 + l.length by omega]
    exact this
/-- Where what comes goes on with a token, an item waits for it. -/
theorem It.waits {g : Gm} {w : List Int} {t : Int} {v : List Int} {l : List Sy} {z : List Int} (h : Cm g l z) : ∀ {u : List Int} {a b : Nat} {x : Im} {p : Pr} {r : List Sy}, z = u ++ t :: v → It g w a x → g.prods[x.prod]? = some p → p.right.drop x.dot = l ++ r → a ≤ b → b ≤ w.length → part w a b = u →
    ∃ y q s, It g w b y ∧ g.prods[y.prod]? = some q ∧ q.right[y.dot]? = some s ∧ s.non = false ∧ s.n = t := by
  induction h generalizing v with
  | nil => intro u a b x p r e; exact absurd e (by simp)
  | @tok s l z hs _ ih =>
    intro u a b x p r e hx hp hd hab hb ep
    have hg : p.right[x.dot]? = some s := by rw [← List.head?_drop, hd]; rfl
    cases u with
    | nil =>
      injection e with e1 _
      have h1 := Cf.part_length (a := a) hb
      rw [ep] at h1
      have h1 : 0 = b - a := h1
      obtain rfl : a = b := by omega
      exact ⟨x, p, s, hx, hp, hg, hs, e1⟩
    | cons y u =>
      injection e with e1 e2
      subst e1
      obtain ⟨h1, h2, h3⟩ := Cf.part_cons hb ep
      have h4 := It.over hx hp hg hs h1
      have h5 : p.right.drop (x.dot + 1) = l ++ r := by
        have := drop_get hg
        rw [hd] at this
        injection this with _ this
        exact this.symm
      exact ih e2 h4 hp h5 h3 hb h2
  | @non s l u0 v0 p' hs hp' hl hr hc ih1 ih2 =>
    intro u a b x p r e hx hp hd hab hb ep
    have hg : p.right[x.dot]? = some s := by rw [← List.head?_drop, hd]; rfl
    obtain ⟨j, hj⟩ := List.mem_iff_getElem?.mp hp'
    have h5 := It.ahead hx hp hg hs hj hl
    rcases List.append_eq_append_iff.mp e with ⟨m, e1, e2⟩ | ⟨m, e1, e2⟩
    · -- u = u0 ++ m
      rw [e1] at ep
      obtain ⟨c, h1, h2, h3, h4⟩ := Cf.part_split hab hb ep
      have h6 := It.come (w := w) hr (r := []) h5 hj (by rw [List.append_nil]; rfl) h1 (by omega) h3
      have h6 : It g w c ⟨j, 0 + p'.right.length, a⟩ := h6
      rw [Nat.zero_add] at h6
      have h7 := It.whole h6 hj rfl hx hp hg hs hl.symm
      have h8 : p.right.drop (x.dot + 1) = l ++ r := by
        have := drop_get hg
        rw [hd] at this
        injection this with _ this
        exact this.symm
      exact ih2 e2 h7 hp h8 h2 hb h4
    · cases m with
      | nil =>
        -- the cut is just behind it
        rw [List.append_nil] at e1
        subst e1
        have e2 : v0 = [] ++ t :: v := e2.symm
        have h6 := It.come (w := w) hr (r := []) h5 hj (by rw [List.append_nil]; rfl) hab hb ep
        have h6 : It g w b ⟨j, 0 + p'.right.length, a⟩ := h6
        rw [Nat.zero_add] at h6
        have h7 := It.whole h6 hj rfl hx hp hg hs hl.symm
        have h8 : p.right.drop (x.dot + 1) = l ++ r := by
          have := drop_get hg
          rw [hd] at this
          injection this with _ this
          exact this.symm
        exact ih2 e2 h7 hp h8 (Nat.le_refl b) hb (Cf.part_self w b)
      | cons y m =>
        injection e2 with e3 e4
        subst e3
        exact ih1 (v := m) (r := []) e1 h5 hj (by rw [List.append_nil]; rfl) hab hb ep

/-- A token is next at an item just if the word goes on with it to one that comes. -/
theorem next_iff {g : Gm} (hg : Ok g) (hv : ∀ l, (∀ s ∈ l, okSy g s) → ∃ u, Cm g l u) {w : List Int} {a : Nat} (ha : a ≤ w.length) (t : Int) :
    (∃ x p s, It g w a x ∧ g.prods[x.prod]? = some p ∧ p.right[x.dot]? = some s ∧ s.non = false ∧ s.n = t) ↔ ∃ v, Cm g [⟨true, g.start⟩] (w.take a ++ t :: v) := by
  constructor
  · rintro ⟨x, p, s, hx, hp, hs, hn, rfl⟩
    obtain ⟨p', l, hp', hok, hgo⟩ := hx.goes hg
    rw [hp] at hp'
    injection hp' with hp'
    subst hp'
    obtain ⟨u, hu⟩ := hv (p.right.drop (x.dot + 1) ++ l) (by
      intro y hy
      rcases List.mem_append.mp hy with hy | hy
      · exact (hg.2.2.2.2.2.2.2 p (List.mem_of_getElem? hp)).2.2.2 y (List.mem_of_mem_drop hy)
      · exact hok y hy)
    exact ⟨u, hgo (s.n :: u) (by rw [drop_get hs]; exact .tok hn hu)⟩
  · rintro ⟨v, h⟩
    obtain ⟨p, hp, hl, hr⟩ := Cm.one.mp h
    obtain ⟨j, hj⟩ := List.mem_iff_getElem?.mp hp
    exact It.waits hr rfl (It.start hj hl) hj (by show p.right.drop 0 = p.right ++ []; rw [List.append_nil]; rfl) (Nat.zero_le a) ha rfl
/-- Without that all comes of something: what goes on so has an item that waits. -/
theorem next_of {g : Gm} {w : List Int} {a : Nat} (ha : a ≤ w.length) {t : Int} {v : List Int} (h : Cm g [⟨true, g.start⟩] (w.take a ++ t :: v)) :
    ∃ x p s, It g w a x ∧ g.prods[x.prod]? = some p ∧ p.right[x.dot]? = some s ∧ s.non = false ∧ s.n = t := by
  obtain ⟨p, hp, hl, hr⟩ := Cm.one.mp h
  obtain ⟨j, hj⟩ := List.mem_iff_getElem?.mp hp
  exact It.waits hr rfl (It.start hj hl) hj (by show p.right.drop 0 = p.right ++ []; rw [List.append_nil]; rfl) (Nat.zero_le a) ha rfl
/-- A whole item of Start, from 0, stands just where what is ahead comes. -/
theorem end_iff {g : Gm} {w : List Int} {a : Nat} (ha : a ≤ w.length) :
    (∃ x p, It g w a x ∧ g.prods[x.prod]? = some p ∧ x.dot = p.right.length ∧ p.left = g.start ∧ x.frm = 0) ↔ Cm g [⟨true, g.start⟩] (w.take a) := by
  constructor
  · rintro ⟨x, p, hx, hp, hd, hl, h0⟩
    obtain ⟨_, _, p', hp', _, h4⟩ := hx.means
    rw [hp] at hp'
    injection hp' with hp'
    subst hp'
    rw [hd, List.take_length, h0] at h4
    exact Cm.one.mpr ⟨p, List.mem_of_getElem? hp, hl, h4⟩
  · intro h
    obtain ⟨p, hp, hl, hr⟩ := Cm.one.mp h
    obtain ⟨j, hj⟩ := List.mem_iff_getElem?.mp hp
    have := It.come (w := w) hr (r := []) (It.start hj hl) hj (by show p.right.drop 0 = p.right ++ []; rw [List.append_nil]; rfl) (Nat.zero_le a) ha rfl
    exact ⟨_, p, this, hj, by show 0 + p.right.length = _; omega, hl, rfl⟩
end Go.Proofs.Ytckckejgocbkkaa.Ch
