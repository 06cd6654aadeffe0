/- Plain facts on words that go on: of a grammar in which each nonterminal stands twice. No program is named here. -/
import Derived.Test.YtckckejgocbkkaaPlainS
namespace Go.Proofs.Ytckckejgocbkkaa.Wi
open Gr (Sy Pr Gm okSy okPr Ok)
open Cf (Cm)

/-- A symbol's second one. -/
def prime (N : Int) (s : Sy) : Sy := if s.non then ⟨true, s.n + N⟩ else s
/-- The beginnings of symbols, the last one of each being the second one. -/
def cuts (N : Int) : List Sy → List (List Sy)
  | [] => []
  | s :: l => [prime N s] :: (cuts N l).map (s :: ·)
theorem mem_cuts {N : Int} : ∀ {l r : List Sy}, r ∈ cuts N l ↔ ∃ pre s post, l = pre ++ s :: post ∧ r = pre ++ [prime N s]
  | [], r => by
    constructor
    · intro h; exact absurd h (by simp [cuts])
    · rintro ⟨pre, s, post, h, _⟩; exact absurd h (by simp)
  | x :: l, r => by
    unfold cuts
    rw [List.mem_cons, List.mem_map]
    constructor
    · rintro (rfl | ⟨q, hq, rfl⟩)
      · exact ⟨[], x, l, rfl, rfl⟩
      · obtain ⟨pre, s, post, rfl, rfl⟩ := mem_cuts.mp hq
        exact ⟨x :: pre, s, post, rfl, rfl⟩
    · rintro ⟨pre, s, post, h1, h2⟩
      cases pre with
      | nil =>
        injection h1 with h3 _
        left
        rw [h2, h3]; rfl
      | cons y pre =>
        injection h1 with h3 h4
        subst h3
        right
        exact ⟨pre ++ [prime N s], mem_cuts.mpr ⟨pre, s, post, h4, rfl⟩, h2.symm⟩
def wildOf (N : Int) (p : Pr) : List Pr := ⟨N + p.left, []⟩ :: (cuts N p.right).map fun r => ⟨N + p.left, r⟩
def wild (g : Gm) : Gm := ⟨g.terms, 2 * g.nons, g.nons + g.start, g.prods ++ g.prods.flatMap (wildOf g.nons)⟩
/-- A symbol of the grammar itself. -/
def low (g : Gm) (s : Sy) : Prop := s.non = true → s.n < g.nons
theorem ok_low {g : Gm} (hg : Ok g) {p : Pr} (hp : p ∈ g.prods) : 0 ≤ p.left ∧ p.left < g.nons ∧ ∀ s ∈ p.right, 0 ≤ s.n ∧ low g s := by
  have h := hg.2.2.2.2.2.2.2 p hp
  exact ⟨h.1, h.2.1, fun s hs => ⟨(h.2.2.2 s hs).1, fun hn => (h.2.2.2 s hs).2.1 hn⟩⟩
theorem mem_wild {g : Gm} {p : Pr} : p ∈ (wild g).prods ↔ p ∈ g.prods ∨ ∃ q ∈ g.prods, p.left = g.nons + q.left ∧ (p.right = [] ∨ ∃ pre s post, q.right = pre ++ s :: post ∧ p.right = pre ++ [prime g.nons s]) := by
  show p ∈ g.prods ++ g.prods.flatMap (wildOf g.nons) ↔ _
  rw [List.mem_append, List.mem_flatMap]
  constructor
  · rintro (h | ⟨q, hq, h⟩)
    · exact .inl h
    · right
      refine ⟨q, hq, ?_⟩
      unfold wildOf at h
      rcases List.mem_cons.mp h with rfl | h
      · exact ⟨rfl, .inl rfl⟩
      · rw [List.mem_map] at h
        obtain ⟨r, hr, rfl⟩ := h
        exact ⟨rfl, .inr (mem_cuts.mp hr)⟩
  · rintro (h | ⟨q, hq, h1, h2⟩)
    · exact .inl h
    · right
      refine ⟨q, hq, ?_⟩
      obtain ⟨left, right⟩ := p
      have h1 : left = g.nons + q.left := h1
      subst h1
      unfold wildOf
      rcases h2 with h2 | h2
      · have h2 : right = [] := h2
        subst h2
        exact List.mem_cons_self ..
      · exact List.mem_cons_of_mem _ (List.mem_map.mpr ⟨right, mem_cuts.mpr h2, rfl⟩)
/-- Of the grammar's own symbols the same comes. -/
theorem cm_up {g : Gm} {l : List Sy} {w : List Int} (h : Cm g l w) : Cm (wild g) l w := by
  induction h with
  | nil => exact .nil
  | tok hs _ ih => exact .tok hs ih
  | non hs hp hl _ _ ih1 ih2 => exact .non hs (mem_wild.mpr (.inl hp)) hl ih1 ih2
theorem cm_low {g : Gm} (hg : Ok g) {l : List Sy} {w : List Int} (h : Cm (wild g) l w) : (∀ s ∈ l, low g s) → Cm g l w := by
  induction h with
  | nil => intro _; exact .nil
  | tok hs _ ih => intro hl; exact .tok hs (ih (fun s hs => hl s (List.mem_cons_of_mem _ hs)))
  | @non s l u v p hs hp hl _ _ ih1 ih2 =>
    intro hlow
    have h1 := hlow s (List.mem_cons_self ..) hs
    rcases mem_wild.mp hp with h2 | ⟨q, hq, h2, _⟩
    · exact .non hs h2 hl (ih1 (fun x hx => ((ok_low hg h2).2.2 x hx).2)) (ih2 (fun x hx => hlow x (List.mem_cons_of_mem _ hx)))
    · have := (ok_low hg hq).1
      omega
theorem low_iff {g : Gm} (hg : Ok g) {n : Int} (hn : n < g.nons) {w : List Int} : Cm (wild g) [⟨true, n⟩] w ↔ Cm g [⟨true, n⟩] w := by
  constructor
  · intro h
    apply cm_low hg h
    intro s hs
    rw [List.mem_singleton] at hs
    subst hs
    exact fun _ => hn
  · exact cm_up
/-- Something comes of symbols, if something comes of each nonterminal. -/
def Lives (g : Gm) : Prop := ∀ n, 0 ≤ n → n < g.nons → ∃ w, Cm g [⟨true, n⟩] w
theorem lives_all {g : Gm} (hv : Lives g) : ∀ {l : List Sy}, (∀ s ∈ l, 0 ≤ s.n ∧ low g s) → ∃ w, Cm g l w
  | [], _ => ⟨[], .nil⟩
  | s :: l, hl => by
    obtain ⟨v, h⟩ := lives_all hv (fun x hx => hl x (List.mem_cons_of_mem _ hx))
    have hs := hl s (List.mem_cons_self ..)
    cases e : s.non with
    | false => exact ⟨s.n :: v, .tok e h⟩
    | true =>
      obtain ⟨u, hu⟩ := hv s.n hs.1 (hs.2 e)
      have es : s = ⟨true, s.n⟩ := by rw [← e]
      refine ⟨u ++ v, ?_⟩
      have := hu.append h
      rw [← es] at this
      exact this
/-- What comes with the last one being a second one goes on to what comes. -/
theorem cm_down {g : Gm} (hg : Ok g) (hv : Lives g) {l : List Sy} {w : List Int} (h : Cm (wild g) l w) :
    ∀ {pre : List Sy} {s : Sy}, l = pre ++ [prime g.nons s] → (∀ x ∈ pre, low g x) → 0 ≤ s.n → low g s → ∃ v, Cm g (pre ++ [s]) (w ++ v) := by
  induction h with
  | nil => intro pre s e; exact absurd e (by simp)
  | @tok s0 l w hs0 hc ih =>
    intro pre s e hpre h0 hs
    cases pre with
    | nil =>
      injection e with e1 e2
      subst e2
      rw [hc.nil_inv]
      cases es : s.non with
      | true => rw [e1] at hs0; unfold prime at hs0; rw [if_pos es] at hs0; exact Bool.noConfusion hs0
      | false =>
        have ep : prime g.nons s = s := by unfold prime; rw [if_neg (by rw [es]; decide)]
        rw [ep] at e1
        subst e1
        exact ⟨[], .tok es .nil⟩
    | cons x pre =>
      injection e with e1 e2
      subst e1
      obtain ⟨v, hvv⟩ := ih e2 (fun y hy => hpre y (List.mem_cons_of_mem _ hy)) h0 hs
      exact ⟨v, .tok hs0 hvv⟩
  | @non s0 l u v p hs0 hp hl hc1 hc2 ih1 ih2 =>
    intro pre s e hpre h0 hs
    cases pre with
    | cons x pre =>
      injection e with e1 e2
      subst e1
      have hx := hpre s0 (List.mem_cons_self ..) hs0
      obtain ⟨v', hvv⟩ := ih2 e2 (fun y hy => hpre y (List.mem_cons_of_mem _ hy)) h0 hs
      rcases mem_wild.mp hp with h2 | ⟨q, hq, h2, _⟩
      · refine ⟨v', ?_⟩
        rw [List.append_assoc]
        exact .non hs0 h2 hl (cm_low hg hc1 (fun x hx => ((ok_low hg h2).2.2 x hx).2)) hvv
      · have := (ok_low hg hq).1
        omega
    | nil =>
      injection e with e1 e2
      subst e2
      rw [hc2.nil_inv, List.append_nil]
      cases es : s.non with
      | false =>
        have ep : prime g.nons s = s := by unfold prime; rw [if_neg (by rw [es]; decide)]
        rw [e1, ep, es] at hs0
        exact absurd hs0 (by decide)
      | true =>
        have ep : prime g.nons s = ⟨true, s.n + g.nons⟩ := by unfold prime; rw [if_pos es]
        have en : s0.n = s.n + g.nons := by rw [e1, ep]
        have hsn := hs es
        have es2 : s = ⟨true, s.n⟩ := by rw [← es]
        show ∃ v, Cm g [s] (u ++ v)
        rcases mem_wild.mp hp with h2 | ⟨q, hq, h2, h3⟩
        · have := (ok_low hg h2).2.1
          omega
        · have eq : q.left = s.n := by omega
          rcases h3 with h3 | ⟨pre2, s2, post, h3, h4⟩
          · rw [h3] at hc1
            rw [hc1.nil_inv]
            obtain ⟨v, hvv⟩ := hv s.n h0 hsn
            exact ⟨v, by rw [es2]; exact hvv⟩
          · have hql := (ok_low hg hq).2.2
            have hs2 := hql s2 (by rw [h3]; simp)
            obtain ⟨v2, hv2⟩ := ih1 h4 (fun x hx => (hql x (by rw [h3]; simp [hx])).2) hs2.1 hs2.2
            obtain ⟨v3, hv3⟩ := lives_all hv (l := post) (fun x hx => hql x (by rw [h3]; simp [hx]))
            refine ⟨v2 ++ v3, ?_⟩
            rw [es2]
            refine Cm.one.mpr ⟨q, hq, eq, ?_⟩
            rw [h3]
            have := hv2.append hv3
            rw [List.append_assoc, List.append_assoc] at this
            exact this
/-- And what goes on to what comes, comes so. -/
theorem cm_cut {g : Gm} {l : List Sy} {w : List Int} (h : Cm g l w) : ∀ {u v : List Int}, w = u ++ v → u ≠ [] → ∃ pre s post, l = pre ++ s :: post ∧ Cm (wild g) (pre ++ [prime g.nons s]) u := by
  induction h with
  | nil => intro u v e hu; exact absurd (List.append_eq_nil_iff.mp e.symm).1 hu
  | @tok s l w hs hc ih =>
    intro u v e hu
    cases u with
    | nil => exact absurd rfl hu
    | cons x u =>
      injection e with e1 e2
      subst e1
      cases u with
      | nil =>
        refine ⟨[], s, l, rfl, ?_⟩
        have ep : prime g.nons s = s := by unfold prime; rw [if_neg (by rw [hs]; decide)]
        rw [ep]
        exact .tok hs .nil
      | cons y u =>
        obtain ⟨pre, s', post, h1, h2⟩ := ih e2 (by simp)
        exact ⟨s :: pre, s', post, by rw [h1]; rfl, .tok hs h2⟩
  | @non s l u0 v0 p hs hp hl hc1 hc2 ih1 ih2 =>
    intro u v e hu
    rcases List.append_eq_append_iff.mp e with ⟨m, e1, e2⟩ | ⟨m, e1, e2⟩
    · -- u = u0 ++ m
      cases m with
      | nil =>
        rw [List.append_nil] at e1
        subst e1
        obtain ⟨pre, s2, post, h1, h2⟩ := ih1 (u := u) (v := []) (by simp) hu
        refine ⟨[], s, l, rfl, ?_⟩
        have ep : prime g.nons s = ⟨true, s.n + g.nons⟩ := by unfold prime; rw [if_pos hs]
        show Cm (wild g) [prime g.nons s] u
        rw [ep]
        exact Cm.one.mpr ⟨⟨g.nons + p.left, pre ++ [prime g.nons s2]⟩, mem_wild.mpr (.inr ⟨p, hp, rfl, .inr ⟨pre, s2, post, h1, rfl⟩⟩), by show g.nons + p.left = _; omega, h2⟩
      | cons y m =>
        obtain ⟨pre, s', post, h1, h2⟩ := ih2 (u := y :: m) (v := v) e2 (by simp)
        refine ⟨s :: pre, s', post, by rw [h1]; rfl, ?_⟩
        rw [e1]
        exact .non hs (mem_wild.mpr (.inl hp)) hl (cm_up hc1) h2
    · -- u0 = u ++ m
      obtain ⟨pre, s2, post, h1, h2⟩ := ih1 (u := u) (v := m) e1 hu
      refine ⟨[], s, l, rfl, ?_⟩
      have ep : prime g.nons s = ⟨true, s.n + g.nons⟩ := by unfold prime; rw [if_pos hs]
      show Cm (wild g) [prime g.nons s] u
      rw [ep]
      exact Cm.one.mpr ⟨⟨g.nons + p.left, pre ++ [prime g.nons s2]⟩, mem_wild.mpr (.inr ⟨p, hp, rfl, .inr ⟨pre, s2, post, h1, rfl⟩⟩), by show g.nons + p.left = _; omega, h2⟩
theorem high_iff {g : Gm} (hg : Ok g) (hv : Lives g) {n : Int} (h0 : 0 ≤ n) (hn : n < g.nons) {u : List Int} : Cm (wild g) [⟨true, g.nons + n⟩] u ↔ ∃ v, Cm g [⟨true, n⟩] (u ++ v) := by
  have ep : (⟨true, g.nons + n⟩ : Sy) = prime g.nons ⟨true, n⟩ := by unfold prime; rw [if_pos rfl]; show _ = (⟨true, n + g.nons⟩ : Sy); rw [Int.add_comm]
  constructor
  · intro h
    rw [ep] at h
    have := cm_down hg hv h (pre := []) (s := ⟨true, n⟩) rfl (by simp) h0 (fun _ => hn)
    exact this
  · rintro ⟨v, h⟩
    obtain ⟨p, hp, hl, hr⟩ := Cm.one.mp h
    have hl : p.left = n := hl
    by_cases hu : u = []
    · subst hu
      exact Cm.one.mpr ⟨⟨g.nons + p.left, []⟩, mem_wild.mpr (.inr ⟨p, hp, rfl, .inl rfl⟩), by show g.nons + p.left = _; rw [hl], .nil⟩
    · obtain ⟨pre, s, post, h1, h2⟩ := cm_cut hr rfl hu
      exact Cm.one.mpr ⟨⟨g.nons + p.left, pre ++ [prime g.nons s]⟩, mem_wild.mpr (.inr ⟨p, hp, rfl, .inr ⟨pre, s, post, h1, rfl⟩⟩), by show g.nons + p.left = _; rw [hl], h2⟩
/-- The symbols of that grammar have numbers from 0 on, too. -/
theorem wild_pos {g : Gm} (hg : Ok g) {p : Pr} (hp : p ∈ (wild g).prods) : 0 ≤ p.left ∧ Cf.Pos p.right := by
  rcases mem_wild.mp hp with h | ⟨q, hq, h2, h3⟩
  · exact Cf.ok_pos hg h
  · obtain ⟨h4, h5⟩ := Cf.ok_pos hg hq
    have hn := hg.2.2.1
    refine ⟨by omega, ?_⟩
    rcases h3 with h3 | ⟨pre, s, post, h3, h6⟩
    · rw [h3]; intro x hx; exact absurd hx (by simp)
    · rw [h6]
      intro x hx
      rcases List.mem_append.mp hx with hx | hx
      · exact h5 x (by rw [h3]; simp [hx])
      · rw [List.mem_singleton] at hx
        have h7 := h5 s (by rw [h3]; simp)
        rw [hx]
        unfold prime
        split
        · show 0 ≤ s.n + g.nons; omega
        · exact h7
end Go.Proofs.Ytckckejgocbkkaa.Wi
