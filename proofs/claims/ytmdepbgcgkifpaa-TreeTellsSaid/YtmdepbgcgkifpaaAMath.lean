/- Plain facts on the nodes of derivations, and on derivations that are alone in sets of items. No program is named here. -/
import Derived.Test.YtmdepbgcgkifpaaCMath
import Derived.Test.YtmdepbgcgkifpaaTMath
namespace Go.Proofs.Ytmdepbgcgkifpaa.Al
open Gr (Sy Pr Gm okSy okPr Ok)
open Cf (Cm part)
open Dv (Dr)
open Ch (Im It)

/-- A node: a production, from where to where, and where its symbols begin. -/
structure No where
  prod : Nat
  frm : Nat
  at_ : List Nat
  stop : Nat

/-- The nodes of a derivation of a row, over a part of a word, and where the row's symbols begin. -/
inductive Nd (ps : List Pr) (w : List Int) : List Nat → List Sy → Nat → Nat → List No → List Nat → Prop
  | nil {a : Nat} : Nd ps w [] [] a a [] []
  | tok {l : List Nat} {s : Sy} {row : List Sy} {a b : Nat} {ns : List No} {pl : List Nat} : s.non = false → w[a]? = some s.n → Nd ps w l row (a + 1) b ns pl → Nd ps w l (s :: row) a b ns (a :: pl)
  | non {l m : List Nat} {s : Sy} {row : List Sy} {a c b : Nat} {i : Nat} {p : Pr} {ns ns' : List No} {pl pl' : List Nat} : s.non = true → ps[i]? = some p → p.left = s.n →
      Nd ps w l p.right a c ns pl → Nd ps w m row c b ns' pl' → Nd ps w (i :: (l ++ m)) (s :: row) a b (⟨i, a, pl, c⟩ :: (ns ++ ns')) (a :: pl')

theorem Nd.le {ps : List Pr} {w : List Int} {l : List Nat} {r : List Sy} {a b : Nat} {ns : List No} {pl : List Nat} (h : Nd ps w l r a b ns pl) : a ≤ b ∧ (a ≤ w.length → b ≤ w.length) := by
  induction h with
  | nil => exact ⟨Nat.le_refl _, id⟩
  | tok _ hw _ ih =>
    have := Ch.lt_of_get hw
    exact ⟨by omega, fun _ => ih.2 (by omega)⟩
  | non _ _ _ _ _ ih1 ih2 => exact ⟨by omega, fun h => ih2.2 (ih1.2 h)⟩
theorem Nd.places {ps : List Pr} {w : List Int} {l : List Nat} {r : List Sy} {a b : Nat} {ns : List No} {pl : List Nat} (h : Nd ps w l r a b ns pl) : pl.length = r.length ∧ (pl ++ [b])[0]? = some a := by
  induction h with
  | nil => exact ⟨rfl, rfl⟩
  | tok _ _ _ ih => exact ⟨by show _ + 1 = _ + 1; rw [ih.1], rfl⟩
  | non _ _ _ _ _ _ ih2 => exact ⟨by show _ + 1 = _ + 1; rw [ih2.1], rfl⟩
theorem Nd.dr {ps : List Pr} {w : List Int} {l : List Nat} {r : List Sy} {a b : Nat} {ns : List No} {pl : List Nat} (h : Nd ps w l r a b ns pl) : Dr ps l r (part w a b) := by
  induction h with
  | nil => rw [Cf.part_self]; exact .nil
  | @tok l s row a b ns pl hs hw h ih =>
    rw [← Cf.part_append w (Nat.le_succ a) h.le.1, Cf.part_one hw]
    exact .tok hs ih
  | @non l m s row a c b i p ns ns' pl pl' hs hi hl h1 h2 ih1 ih2 =>
    rw [← Cf.part_append w h1.le.1 h2.le.1]
    exact .non hs hi hl (ih1.append ih2)
theorem Nd.split {ps : List Pr} {w : List Int} : ∀ {r1 r2 : List Sy} {l : List Nat} {a b : Nat} {ns : List No} {pl : List Nat}, Nd ps w l (r1 ++ r2) a b ns pl →
    ∃ c l1 l2 n1 n2 p1 p2, l = l1 ++ l2 ∧ ns = n1 ++ n2 ∧ pl = p1 ++ p2 ∧ Nd ps w l1 r1 a c n1 p1 ∧ Nd ps w l2 r2 c b n2 p2
  | [], r2, l, a, b, ns, pl, h => ⟨a, [], l, [], ns, [], pl, rfl, rfl, rfl, .nil, h⟩
  | s :: r1, r2, l, a, b, ns, pl, h => by
    rw [List.cons_append] at h
    generalize er : s :: (r1 ++ r2) = r at h
    cases h with
    | nil => exact absurd er (by simp)
    | @tok l s' row a b ns pl hs hw h =>
      injection er with e1 e2
      subst e1; subst e2
      obtain ⟨c, l1, l2, n1, n2, p1, p2, h1, h2, h3, h4, h5⟩ := Nd.split h
      exact ⟨c, l1, l2, n1, n2, a :: p1, p2, h1, h2, by rw [h3]; rfl, .tok hs hw h4, h5⟩
    | @non l m s' row a d b i p ns ns' pl pl' hs hi hl h1 h2 =>
      injection er with e1 e2
      subst e1; subst e2
      obtain ⟨c, l1, l2, n1, n2, p1, p2, h3, h4, h5, h6, h7⟩ := Nd.split h2
      exact ⟨c, i :: (l ++ l1), l2, ⟨i, a, pl, d⟩ :: (ns ++ n1), n2, a :: p1, p2, by rw [h3]; simp, by rw [h4]; simp, by rw [h5]; rfl, .non hs hi hl h1 h6, h7⟩
/-- Each derivation of a part of a word has nodes. -/
theorem nd_of {ps : List Pr} {w : List Int} {l : List Nat} {r : List Sy} {v : List Int} (h : Dr ps l r v) : ∀ {a b : Nat}, a ≤ b → b ≤ w.length → part w a b = v → ∃ ns pl, Nd ps w l r a b ns pl := by
  induction h with
  | nil =>
    intro a b hab hb e
    have h1 := Cf.part_length (a := a) hb
    rw [e] at h1
    have h1 : 0 = b - a := h1
    obtain rfl : a = b := by omega
    exact ⟨[], [], .nil⟩
  | tok hs _ ih =>
    intro a b hab hb e
    obtain ⟨h1, h2, h3⟩ := Cf.part_cons hb e
    obtain ⟨ns, pl, h⟩ := ih (by omega) hb h2
    exact ⟨ns, a :: pl, .tok hs h1 h⟩
  | non hs hi hl _ ih =>
    intro a b hab hb e
    obtain ⟨ns, pl, h⟩ := ih hab hb e
    obtain ⟨c, l1, l2, n1, n2, p1, p2, rfl, _, _, h4, h5⟩ := h.split
    exact ⟨_, _, .non hs hi hl h4 h5⟩
/-- And just these. -/
theorem Nd.one {ps : List Pr} {w : List Int} {l : List Nat} {r : List Sy} {a b : Nat} {ns : List No} {pl : List Nat} (h : Nd ps w l r a b ns pl) : ∀ {m : List Nat} {b' : Nat} {ns' : List No} {pl' : List Nat}, Nd ps w m r a b' ns' pl' → (∃ x y, l ++ x = m ++ y) → l = m ∧ b = b' ∧ ns = ns' ∧ pl = pl' := by
  induction h with
  | nil => intro m b' ns' pl' h _; cases h; exact ⟨rfl, rfl, rfl, rfl⟩
  | tok hs hw _ ih =>
    intro m b' ns' pl' h e
    cases h with
    | tok _ _ h => obtain ⟨h1, h2, h3, h4⟩ := ih h e; exact ⟨h1, h2, h3, by rw [h4]⟩
    | non h1 => rw [hs] at h1; exact absurd h1 (by decide)
  | @non l m s row a c b i p ns ns2 pl pl2 hs hi hl h1 h2 ih1 ih2 =>
    intro m' b' ns' pl' h e
    cases h with
    | tok h3 => rw [hs] at h3; exact absurd h3 (by decide)
    | @non l' m'' _ _ _ c' _ i' p' ns3 ns4 pl3 pl4 _ hi' hl' h3 h4 =>
      obtain ⟨x, y, e⟩ := e
      injection e with e1 e2
      subst e1
      rw [hi] at hi'
      injection hi' with hi'
      subst hi'
      have e2 : l ++ m ++ x = l' ++ m'' ++ y := e2
      obtain ⟨h5, h6, h7, h8⟩ := ih1 h3 ⟨m ++ x, m'' ++ y, by rw [← List.append_assoc, ← List.append_assoc]; exact e2⟩
      subst h5; subst h6; subst h7; subst h8
      rw [List.append_assoc, List.append_assoc] at e2
      obtain ⟨h9, h10, h11, h12⟩ := ih2 h4 ⟨x, y, List.append_cancel_left e2⟩
      subst h9; subst h10; subst h11; subst h12
      exact ⟨rfl, rfl, rfl, rfl⟩

/-- Does a symbol lead from a place to a place, by what stands in sets? -/
def Leads (ps : List Pr) (w : List Int) (S : Nat → Im → Prop) (s : Sy) (m e : Nat) : Prop :=
  (s.non = false ∧ w[m]? = some s.n ∧ e = m + 1) ∨ (s.non = true ∧ ∃ y q, S e y ∧ ps[y.prod]? = some q ∧ y.dot = q.right.length ∧ q.left = s.n ∧ y.frm = m)
/-- No other place is there at which a symbol of these could begin. -/
def Rows (ps : List Pr) (w : List Int) (S : Nat → Im → Prop) (i f k0 : Nat) (t : List Sy) (pl : List Nat) (b : Nat) : Prop :=
  ∀ k s e m, t[k]? = some s → (pl ++ [b])[k + 1]? = some e → f ≤ m → m ≤ e → S m ⟨i, k0 + k, f⟩ → Leads ps w S s m e → (pl ++ [b])[k]? = some m
/-- A node beside which nothing else could stand. -/
def Lone (ps : List Pr) (w : List Int) (S : Nat → Im → Prop) (x : No) : Prop :=
  ∀ p, ps[x.prod]? = some p → (∀ y q, S x.stop y → ps[y.prod]? = some q → y.dot = q.right.length → q.left = p.left → y.frm = x.frm → y.prod = x.prod) ∧ Rows ps w S x.prod x.frm 0 p.right x.at_ x.stop
theorem Leads.mono {ps : List Pr} {w : List Int} {S T : Nat → Im → Prop} {s : Sy} {m e : Nat} (he : e ≤ w.length) (h : ∀ a x, a ≤ w.length → T a x → S a x) (hl : Leads ps w T s m e) : Leads ps w S s m e := by
  rcases hl with hl | ⟨h1, y, q, h2, h3⟩
  · exact .inl hl
  · exact .inr ⟨h1, y, q, h e y he h2, h3⟩
theorem Lone.mono {ps : List Pr} {w : List Int} {S T : Nat → Im → Prop} {x : No} (hst : ∀ e ∈ x.at_ ++ [x.stop], e ≤ w.length) (h : ∀ a y, a ≤ w.length → T a y → S a y) (hx : Lone ps w S x) : Lone ps w T x := by
  intro p hp
  obtain ⟨h1, h2⟩ := hx p hp
  constructor
  · intro y q hy
    exact h1 y q (h _ y (hst _ (by simp)) hy)
  · intro k s e m hk he hf hm hT hl
    have hle := hst e (List.mem_of_getElem? he)
    exact h2 k s e m hk he hf hm (h m _ (by omega) hT) (hl.mono hle h)

section
variable {g : Gm} {w : List Int}

theorem cm_of_nd {l : List Nat} {r : List Sy} {a b : Nat} {ns : List No} {pl : List Nat} (h : Nd g.prods w l r a b ns pl) : Cm g r (part w a b) := h.dr.cm
/-- A derivation whose nodes are alone is the only one over that part. -/
theorem lone_one : ∀ (n : Nat) (t r : List Sy) (i f c c' b : Nat) (p : Pr) (l l' : List Nat) (ns ns' : List No) (pl pl' : List Nat), l.length ≤ n → b ≤ w.length → g.prods[i]? = some p → p.right = r ++ t →
    Nd g.prods w l t c b ns pl → Nd g.prods w l' t c' b ns' pl' → It g w c' ⟨i, r.length, f⟩ → Rows g.prods w (It g w) i f r.length t pl b → (∀ x ∈ ns, Lone g.prods w (It g w) x) → (t ≠ [] → c = c') ∧ l = l' := by
  intro n
  induction n with
  | zero =>
    intro t
    induction t with
    | nil =>
      intro r i f c c' b p l l' ns ns' pl pl' hl hb hp he h1 h2 hi hr hx
      cases h1; cases h2
      exact ⟨fun h => absurd rfl h, rfl⟩
    | cons s t iht =>
      intro r i f c c' b p l l' ns ns' pl pl' hln hb hp he h1 h2 hi hr hx
      have hg : p.right[r.length]? = some s := by rw [he, List.getElem?_append_right (Nat.le_refl _), Nat.sub_self]; rfl
      cases h1 with
      | non _ _ _ _ _ => exact absurd hln (by simp)
      | @tok _ _ _ _ _ _ pl hs hw h1 =>
        cases h2 with
        | non hs2 => rw [hs] at hs2; exact absurd hs2 (by decide)
        | @tok _ _ _ _ _ _ pl' _ hw2 h2 =>
          have hi2 := It.over hi hp hg hs hw2
          have hr2 : Rows g.prods w (It g w) i f (r ++ [s]).length t pl b := by
            intro k s' e m hk he' hf hm hS hL
            rw [List.length_append] at hS
            exact hr (k + 1) s' e m hk he' hf hm (by rw [show r.length + (k + 1) = r.length + [s].length + k by simp; omega]; exact hS) hL
          have := iht (r ++ [s]) i f (c + 1) (c' + 1) b p l l' ns ns' pl pl' hln hb hp (by rw [he]; simp) h1 h2 (by rw [List.length_append]; exact hi2) hr2 hx
          have hcc : c + 1 = c' + 1 := by
            cases t with
            | nil => cases h1; cases h2; omega
            | cons _ _ => exact this.1 (by simp)
          exact ⟨fun _ => by omega, this.2⟩
  | succ n ihn =>
    intro t
    induction t with
    | nil =>
      intro r i f c c' b p l l' ns ns' pl pl' hl hb hp he h1 h2 hi hr hx
      cases h1; cases h2
      exact ⟨fun h => absurd rfl h, rfl⟩
    | cons s t iht =>
      intro r i f c c' b p l l' ns ns' pl pl' hln hb hp he h1 h2 hi hr hx
      have hg : p.right[r.length]? = some s := by rw [he, List.getElem?_append_right (Nat.le_refl _), Nat.sub_self]; rfl
      have hmeans := hi.means
      have hrow : ∀ {pl2 : List Nat} {d : Nat}, pl = c :: pl2 → Rows g.prods w (It g w) i f (r ++ [s]).length t pl2 b := by
        intro pl2 d e
        subst e
        intro k s' e m hk he' hf hm hS hL
        rw [List.length_append] at hS
        exact hr (k + 1) s' e m hk he' hf hm (by rw [show r.length + (k + 1) = r.length + [s].length + k by simp; omega]; exact hS) hL
      cases h1 with
      | @tok _ _ _ _ _ _ pl hs hw h1 =>
        cases h2 with
        | non hs2 => rw [hs] at hs2; exact absurd hs2 (by decide)
        | @tok _ _ _ _ _ _ pl' _ hw2 h2 =>
          have hi2 := It.over hi hp hg hs hw2
          have := iht (r ++ [s]) i f (c + 1) (c' + 1) b p l l' ns ns' pl pl' hln hb hp (by rw [he]; simp) h1 h2 (by rw [List.length_append]; exact hi2) (hrow (d := 0) rfl) hx
          have hcc : c + 1 = c' + 1 := by
            cases t with
            | nil => cases h1; cases h2; omega
            | cons _ _ => exact this.1 (by simp)
          exact ⟨fun _ => by omega, this.2⟩
      | @non l1 m1 _ _ _ d _ j q ns1 ns2 pl1 pl2 hs hj hq h11 h12 =>
        cases h2 with
        | tok hs2 => rw [hs] at hs2; exact absurd hs2 (by decide)
        | @non l1' m1' _ _ _ d' _ j' q' ns1' ns2' pl1' pl2' _ hj' hq' h21 h22 =>
          have hd' : d' ≤ w.length := by have := h22.le.1; omega
          -- the second's child, as an item
          have hpre := It.ahead hi hp hg hs hj' hq'
          have hwh := It.come (w := w) (cm_of_nd h21) (r := []) hpre hj' (by show q'.right.drop 0 = _; rw [List.append_nil]; rfl) h21.le.1 hd' rfl
          have hwh : It g w d' ⟨j', 0 + q'.right.length, c'⟩ := hwh
          rw [Nat.zero_add] at hwh
          have hi2 := It.whole hwh hj' rfl hi hp hg hs hq'.symm
          have hlen : m1.length ≤ n + 1 := by
            have e : (j :: (l1 ++ m1)).length = l1.length + m1.length + 1 := by simp
            omega
          have hlen1 : l1.length ≤ n := by
            have e : (j :: (l1 ++ m1)).length = l1.length + m1.length + 1 := by simp
            omega
          have key := iht (r ++ [s]) i f d d' b p m1 m1' ns2 ns2' pl2 pl2' hlen hb hp (by rw [he]; simp) h12 h22 (by rw [List.length_append]; exact hi2) (hrow (d := 0) rfl) (fun x hx' => hx x (by simp [hx']))
          have hdd : d = d' := by
            cases t with
            | nil => cases h12; cases h22; rfl
            | cons _ _ => exact key.1 (by simp)
          subst hdd
          have hcc : c = c' := by
            have e1 : (c :: pl2 ++ [b])[0 + 1]? = some d := by
              show (pl2 ++ [b])[0]? = some d
              exact h12.places.2
            have := hr 0 s d c' rfl e1 hmeans.1 h21.le.1 hi (.inr ⟨hs, ⟨j', q'.right.length, c'⟩, q', hwh, hj', rfl, hq', rfl⟩)
            have : some c = some c' := this
            injection this
          subst hcc
          have hlone := hx ⟨j, c, pl1, d⟩ (by simp)
          obtain ⟨ha, hb2⟩ := hlone q hj
          have hjj : j' = j := ha ⟨j', q'.right.length, c⟩ q' hwh hj' rfl (by rw [hq, hq']) rfl
          subst hjj
          rw [hj] at hj'
          injection hj' with hj'
          subst hj'
          have sub := ihn q.right [] j' c c c d q l1 l1' ns1 ns1' pl1 pl1' hlen1 hd' hj rfl h11 h21 hpre hb2 (fun x hx' => hx x (by simp [hx']))
          refine ⟨fun _ => rfl, ?_⟩
          rw [sub.2, key.2]
/-- A node stands in a derivation, and another production of its nonterminal may stand in its place. -/
theorem Nd.within {ps : List Pr} {w : List Int} {l : List Nat} {r : List Sy} {a b : Nat} {ns : List No} {pl : List Nat} (h : Nd ps w l r a b ns pl) : ∀ x ∈ ns, ∃ p pre lx post nsx, ps[x.prod]? = some p ∧ l = pre ++ (x.prod :: lx) ++ post ∧ Nd ps w lx p.right x.frm x.stop nsx x.at_ ∧ a ≤ x.frm ∧ x.stop ≤ b ∧
    ∀ y q ly, ps[y]? = some q → q.left = p.left → Dr ps ly q.right (part w x.frm x.stop) → Dr ps (pre ++ (y :: ly) ++ post) r (part w a b) := by
  induction h with
  | nil => intro x hx; exact absurd hx (by simp)
  | @tok l s row a b ns pl hs hw h ih =>
    intro x hx
    obtain ⟨p, pre, lx, post, nsx, h1, h2, h3, h4, h5, h6⟩ := ih x hx
    refine ⟨p, pre, lx, post, nsx, h1, h2, h3, by omega, h5, ?_⟩
    intro y q ly hy hq hd
    rw [← Cf.part_append w (Nat.le_succ a) h.le.1, Cf.part_one hw]
    exact .tok hs (h6 y q ly hy hq hd)
  | @non l m s row a c b i p ns ns' pl pl' hs hi hl h1 h2 ih1 ih2 =>
    intro x hx
    rcases List.mem_cons.mp hx with rfl | hx
    · refine ⟨p, [], l, m, ns, hi, rfl, h1, Nat.le_refl _, h2.le.1, ?_⟩
      intro y q ly hy hq hd
      show Dr ps (y :: ly ++ m) (s :: row) (part w a b)
      rw [← Cf.part_append w h1.le.1 h2.le.1]
      exact .non hs hy (hq.trans hl) (hd.append h2.dr)
    · rcases List.mem_append.mp hx with hx | hx
      · obtain ⟨p', pre, lx, post, nsx, h3, h4, h5, h6, h7, h8⟩ := ih1 x hx
        have := h2.le.1
        refine ⟨p', i :: pre, lx, post ++ m, nsx, h3, by rw [h4]; simp, h5, h6, by omega, ?_⟩
        intro y q ly hy hq hd
        have := (h8 y q ly hy hq hd).append h2.dr
        rw [Cf.part_append w h1.le.1 h2.le.1] at this
        have := Dr.non (l := pre ++ (y :: ly) ++ post ++ m) hs hi hl this
        rw [show (i :: pre) ++ (y :: ly) ++ (post ++ m) = i :: (pre ++ (y :: ly) ++ post ++ m) by simp]
        exact this
      · obtain ⟨p', pre, lx, post, nsx, h3, h4, h5, h6, h7, h8⟩ := ih2 x hx
        have := h1.le.1
        refine ⟨p', i :: (l ++ pre), lx, post, nsx, h3, by rw [h4]; simp, h5, by omega, h7, ?_⟩
        intro y q ly hy hq hd
        have := h1.dr.append (h8 y q ly hy hq hd)
        rw [Cf.part_append w h1.le.1 h2.le.1] at this
        have := Dr.non (l := l ++ (pre ++ (y :: ly) ++ post)) hs hi hl this
        rw [show i :: (l ++ pre) ++ (y :: ly) ++ post = i :: (l ++ (pre ++ (y :: ly) ++ post)) by simp]
        exact this
/-- All places of nodes lie within the part. -/
theorem Nd.bound {ps : List Pr} {w : List Int} {l : List Nat} {r : List Sy} {a b : Nat} {ns : List No} {pl : List Nat} (h : Nd ps w l r a b ns pl) : ∀ e ∈ pl ++ [b], a ≤ e ∧ e ≤ b := by
  induction h with
  | nil => intro e he; simp at he; omega
  | @tok l s row a b ns pl hs hw h ih =>
    intro e he
    rw [List.cons_append] at he
    rcases List.mem_cons.mp he with rfl | he
    · have := h.le.1; omega
    · have := ih e he; omega
  | @non l m s row a c b i p ns ns' pl pl' hs hi hl h1 h2 ih1 ih2 =>
    intro e he
    rw [List.cons_append] at he
    have h3 := h1.le.1
    have h4 := h2.le.1
    rcases List.mem_cons.mp he with rfl | he
    · omega
    · have := ih2 e he; omega
theorem Nd.bound_no {ps : List Pr} {w : List Int} {l : List Nat} {r : List Sy} {a b : Nat} {ns : List No} {pl : List Nat} (h : Nd ps w l r a b ns pl) (hb : b ≤ w.length) : ∀ x ∈ ns, ∀ e ∈ x.at_ ++ [x.stop], e ≤ w.length := by
  intro x hx e he
  obtain ⟨p, pre, lx, post, nsx, _, _, h3, _, h5, _⟩ := h.within x hx
  have := h3.bound e he
  omega
/-- Of two derivations of one row over one part that are the same to some place, the symbols lie at the same places. -/
theorem Nd.same {ps : List Pr} {w : List Int} {r t : List Sy} {l l' m m' : List Nat} {a c c' b : Nat} {n1 n1' n2 n2' : List No} {p1 p1' p2 p2' : List Nat}
    (h1 : Nd ps w l r a c n1 p1) (h1' : Nd ps w l' r a c' n1' p1') (_ : Nd ps w m t c b n2 p2) (_ : Nd ps w m' t c' b n2' p2') (e : l ++ m = l' ++ m') : c = c' ∧ l = l' := by
  have := h1.one h1' ⟨m, m', e⟩
  exact ⟨this.2.1, this.1⟩
/-- The only derivation of a word is alone in the word's items. -/
theorem one_lone {l : List Nat} {r : List Sy} {a b : Nat} {ns : List No} {pl : List Nat} (hb : b ≤ w.length) (h : Nd g.prods w l r a b ns pl) (hone : ∀ m, Dr g.prods m r (part w a b) → m = l) : ∀ x ∈ ns, Lone g.prods w (It g w) x := by
  intro x hx p hp
  obtain ⟨p', pre, lx, post, nsx, h1, h2, h3, h4, h5, h6⟩ := h.within x hx
  rw [hp] at h1
  injection h1 with h1
  subst h1
  constructor
  · intro y q hy hq hd hl hf
    obtain ⟨_, _, q', hq', _, hm⟩ := hy.means
    rw [hq] at hq'
    injection hq' with hq'
    subst hq'
    rw [hd, List.take_length, hf] at hm
    obtain ⟨ly, hly⟩ := Dv.cm_dr hm
    have := hone _ (h6 y.prod q ly hq hl hly)
    rw [h2, List.append_assoc, List.append_assoc] at this
    have := List.append_cancel_left this
    injection this
  · intro k s e m hk he hf hm hI hL
    have hbd := h3.bound e (List.mem_of_getElem? he)
    have hel : e ≤ w.length := by omega
    -- the node's own way: what is ahead of the symbol, the symbol, what is behind it
    have er : p.right = p.right.take k ++ (s :: p.right.drop (k + 1)) := by rw [← Ch.drop_get hk, List.take_append_drop]
    have h3' := h3
    rw [er] at h3'
    obtain ⟨c1, l1, l2, n1, n2, p1, p2, e1, e2, e3, h7, h8⟩ := h3'.split
    have hp1 : p1.length = k := by rw [h7.places.1, List.length_take]; have := Ch.lt_of_get hk; omega
    have hck : (x.at_ ++ [x.stop])[k]? = some c1 := by
      rw [e3, List.append_assoc, List.getElem?_append_right (by omega), hp1, Nat.sub_self]
      exact h8.places.2
    rw [hck]
    -- the other way
    obtain ⟨hfm, _, q0, hq0, _, hcm⟩ := hI.means
    have hq0 : g.prods[x.prod]? = some q0 := hq0
    rw [hp] at hq0
    injection hq0 with hq0
    subst hq0
    have hcm : Cm g (p.right.take (0 + k)) (part w x.frm m) := hcm
    rw [Nat.zero_add] at hcm
    obtain ⟨l1', hl1'⟩ := Dv.cm_dr hcm
    have hs2 : ∃ l2', Dr g.prods l2' [s] (part w m e) := by
      rcases hL with ⟨h9, h10, h11⟩ | ⟨h9, y, q, h10, h11, h12, h13, h14⟩
      · subst h11
        rw [Cf.part_one h10]
        exact ⟨[], .tok h9 .nil⟩
      · obtain ⟨_, _, q', hq', _, hy⟩ := h10.means
        rw [h11] at hq'
        injection hq' with hq'
        subst hq'
        rw [h12, List.take_length, h14] at hy
        obtain ⟨ly, hly⟩ := Dv.cm_dr hy
        exact ⟨y.prod :: ly, .non h9 h11 h13 (by rw [List.append_nil]; exact hly)⟩
    obtain ⟨l2', hl2'⟩ := hs2
    -- what is behind the symbol begins at e, in the node's own way
    have hbeh : ∃ l3 n3 p3, Nd g.prods w l3 (p.right.drop (k + 1)) e x.stop n3 p3 ∧ ∃ l20 n20 p20, l2 = l20 ++ l3 ∧ Nd g.prods w l20 [s] c1 e n20 p20 := by
      obtain ⟨d, l20, l3, n20, n3, p20, p3, e4, e5, e6, h15, h16⟩ := Nd.split (r1 := [s]) h8
      have hp20 : p20.length = 1 := h15.places.1
      have hde : (x.at_ ++ [x.stop])[k + 1]? = some d := by
        rw [e3, e6, List.append_assoc, List.getElem?_append_right (by omega), hp1, show k + 1 - k = 1 by omega, List.append_assoc, List.getElem?_append_right (by omega), hp20]
        exact h16.places.2
      rw [he] at hde
      injection hde with hde
      subst hde
      exact ⟨l3, n3, p3, h16, l20, n20, p20, e4, h15⟩
    obtain ⟨l3, n3, p3, h17, l20, n20, p20, e7, h18⟩ := hbeh
    have hdr : Dr g.prods (l1' ++ (l2' ++ l3)) p.right (part w x.frm x.stop) := by
      have h19 := hl1'.append (hl2'.append h17.dr)
      rw [Cf.part_append w hm hbd.2, Cf.part_append w hfm (by omega)] at h19
      rw [er]
      exact h19
    have := hone _ (h6 x.prod p _ hp rfl hdr)
    rw [h2, List.append_assoc, List.append_assoc] at this
    have := List.append_cancel_left this
    have this2 : l1' ++ (l2' ++ l3) ++ post = lx ++ post := by
      rw [List.cons_append, List.cons_append] at this
      injection this
    have this3 := List.append_cancel_right this2
    rw [e1, e7] at this3
    obtain ⟨ns1', pl1', hnd1'⟩ := nd_of (w := w) hl1' hfm (by omega) rfl
    have := h7.one hnd1' ⟨l20 ++ l3, l2' ++ l3, this3.symm⟩
    rw [this.2.1]
end
end Go.Proofs.Ytmdepbgcgkifpaa.Al
