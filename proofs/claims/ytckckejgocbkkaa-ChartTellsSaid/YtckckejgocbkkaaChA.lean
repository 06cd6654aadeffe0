/- Plain facts on how a word's sets are filled: an item at a time, and what ended. No program is named here. -/
import Derived.Test.YtckckejgocbkkaaPlainT
import Derived.Test.YtckckejgocbkkaaPlainS
import Derived.Test.YtckckejgocbkkaaRows
import Derived.Test.YtckckejgocbkkaaWMem
import Derived.Test.YtckckejgocbkkaaDRow
import Derived.Test.YtckckejgocbkkaaTy
import Derived.Maps.OwnSet
import Derived.Maps.OwnOps
import Derived.DeepKeys4
import Derived.ArgAppend
import Derived.Deep.DeepAppendRoom
namespace Go.Proofs.Ytckckejgocbkkaa.Ch
open Gr (Sy Pr Gm okSy okPr Ok)
open Kn (add adds mem_add mem_adds add_nodup adds_nodup)

def upd {α : Type} (f : Nat → α) (i : Nat) (x : α) : Nat → α := fun j => if j = i then x else f j
theorem upd_same {α : Type} (f : Nat → α) (i : Nat) (x : α) : upd f i x i = x := if_pos rfl
theorem upd_other {α : Type} (f : Nat → α) {i j : Nat} (x : α) (h : j ≠ i) : upd f i x j = f j := if_neg h
theorem upd_self {α : Type} (f : Nat → α) (i : Nat) : upd f i (f i) = f := by
  funext j
  unfold upd
  split
  · rename_i h; rw [h]
  · rfl

/-- An item's next symbol; the item of which one more is behind; its nonterminal. -/
def symAt (g : Gm) (x : Im) : Option Sy := (g.prods[x.prod]?).bind fun p => p.right[x.dot]?
def behind (x : Im) : Im := ⟨x.prod, x.dot + 1, x.frm⟩
def leftOf (g : Gm) (x : Im) : Int := match g.prods[x.prod]? with | some p => p.left | none => 0
def ofN (ps : List Pr) (non : Int) : List Nat := (List.range ps.length).filter fun i => match ps[i]? with | some p => decide (p.left = non) | none => false
/-- A nonterminal's productions, begun at a place. -/
def begs (g : Gm) (a : Nat) (n : Int) : List Im := (ofN g.prods n).map fun j => ⟨j, 0, a⟩
def wants (g : Gm) (n : Int) (y : Im) : Bool := match symAt g y with | some s => s.non && decide (s.n = n) | none => false
/-- Of items those that wait for a nonterminal, gone on. -/
def lets (g : Gm) (n : Int) (l : List Im) : List Im := (l.filter (wants g n)).map behind
theorem mem_ofN {ps : List Pr} {non : Int} {j : Nat} : j ∈ ofN ps non ↔ ∃ p, ps[j]? = some p ∧ p.left = non := by
  unfold ofN
  rw [List.mem_filter, List.mem_range]
  constructor
  · rintro ⟨h1, h2⟩
    rw [List.getElem?_eq_getElem h1] at h2
    exact ⟨_, List.getElem?_eq_getElem h1, by simpa using h2⟩
  · rintro ⟨p, h1, h2⟩
    refine ⟨lt_of_get h1, ?_⟩
    rw [h1]
    simpa using h2
theorem mem_begs {g : Gm} {a : Nat} {n : Int} {x : Im} : x ∈ begs g a n ↔ ∃ j p, x = ⟨j, 0, a⟩ ∧ g.prods[j]? = some p ∧ p.left = n := by
  unfold begs
  rw [List.mem_map]
  constructor
  · rintro ⟨j, h1, rfl⟩
    obtain ⟨p, h2, h3⟩ := mem_ofN.1 h1
    exact ⟨j, p, rfl, h2, h3⟩
  · rintro ⟨j, p, rfl, h2, h3⟩
    exact ⟨j, mem_ofN.2 ⟨p, h2, h3⟩, rfl⟩
theorem wants_iff {g : Gm} {n : Int} {y : Im} : wants g n y = true ↔ ∃ s, symAt g y = some s ∧ s.non = true ∧ s.n = n := by
  unfold wants
  cases h : symAt g y with
  | none => simp
  | some s => simp
theorem mem_lets {g : Gm} {n : Int} {l : List Im} {x : Im} : x ∈ lets g n l ↔ ∃ y ∈ l, wants g n y = true ∧ x = behind y := by
  unfold lets
  rw [List.mem_map]
  constructor
  · rintro ⟨y, h1, rfl⟩
    obtain ⟨h1, h2⟩ := List.mem_filter.1 h1
    exact ⟨y, h1, h2, rfl⟩
  · rintro ⟨y, h1, h2, rfl⟩
    exact ⟨y, List.mem_filter.2 ⟨h1, h2⟩, rfl⟩
theorem lets_snoc (g : Gm) (n : Int) (l : List Im) (y : Im) : lets g n (l ++ [y]) = lets g n l ++ (if wants g n y then [behind y] else []) := by
  unfold lets
  rw [List.filter_append, List.map_append]
  congr 1
  cases h : wants g n y <;> simp [h]
theorem symAt_iff {g : Gm} {x : Im} {s : Sy} : symAt g x = some s ↔ ∃ p, g.prods[x.prod]? = some p ∧ p.right[x.dot]? = some s := by
  unfold symAt
  cases h : g.prods[x.prod]? with
  | none => simp
  | some p => simp
theorem symAt_none {g : Gm} {x : Im} {p : Pr} (hp : g.prods[x.prod]? = some p) (hd : x.dot ≤ p.right.length) : symAt g x = none ↔ x.dot = p.right.length := by
  unfold symAt
  rw [hp]
  simp only [Option.bind_some, List.getElem?_eq_none_iff]
  omega
theorem leftOf_eq {g : Gm} {x : Im} {p : Pr} (hp : g.prods[x.prod]? = some p) : leftOf g x = p.left := by unfold leftOf; rw [hp]

/-- How far the sets are filled: what stands at each place, and what ended there. -/
structure St where
  S : Nat → List Im
  E : Nat → List (Int × Nat)
def puts (f : St) (a : Nat) (xs : List Im) : St := ⟨upd f.S a (adds (f.S a) xs), f.E⟩
def endI (g : Gm) (f : St) (a : Nat) (e : Int × Nat) : St := if e ∈ f.E a then f else puts ⟨f.S, upd f.E a (f.E a ++ [e])⟩ a (lets g e.1 (f.S e.2))
def nonI (g : Gm) (f : St) (a : Nat) (s : Sy) (x : Im) : St := if (s.n, a) ∈ f.E a then puts (puts f a (begs g a s.n)) a [behind x] else puts f a (begs g a s.n)
def followI (g : Gm) (w : List Int) (f : St) (a : Nat) (x : Im) : St := match symAt g x with
  | none => endI g f a (leftOf g x, x.frm)
  | some s => if s.non then nonI g f a s x else if w[a]? = some s.n then puts f (a + 1) [behind x] else f
theorem puts_nil (f : St) (a : Nat) : puts f a [] = f := by unfold puts; rw [Kn.adds_nil, upd_self]
theorem upd_upd {α : Type} (f : Nat → α) (i : Nat) (x y : α) : upd (upd f i x) i y = upd f i y := by
  funext j
  unfold upd
  split <;> rfl
theorem puts_puts (f : St) (a : Nat) (xs ys : List Im) : puts (puts f a xs) a ys = puts f a (xs ++ ys) := by
  unfold puts
  dsimp only
  rw [upd_same, upd_upd, Kn.adds_append]
theorem puts_E (f : St) (a : Nat) (xs : List Im) : (puts f a xs).E = f.E := rfl
theorem puts_same (f : St) (a : Nat) (xs : List Im) : (puts f a xs).S a = adds (f.S a) xs := upd_same ..
theorem puts_other (f : St) {a b : Nat} (xs : List Im) (h : b ≠ a) : (puts f a xs).S b = f.S b := upd_other _ _ h
theorem mem_puts {f : St} {a b : Nat} {xs : List Im} {x : Im} : x ∈ (puts f a xs).S b ↔ x ∈ f.S b ∨ (b = a ∧ x ∈ xs) := by
  by_cases h : b = a
  · subst h
    rw [puts_same, mem_adds]
    simp
  · rw [puts_other _ _ h]
    simp [h]
/-- What stood there stands where it stood. -/
theorem add_pre (l : List Im) (x : Im) : l <+: add l x := by
  unfold add
  split
  · exact List.prefix_refl _
  · exact List.prefix_append _ _
theorem adds_pre : ∀ (xs : List Im) (l : List Im), l <+: adds l xs
  | [], _ => List.prefix_refl _
  | x :: xs, l => (add_pre l x).trans (adds_pre xs _)
theorem puts_pre (f : St) (a b : Nat) (xs : List Im) : f.S b <+: (puts f a xs).S b := by
  by_cases h : b = a
  · subst h; rw [puts_same]; exact adds_pre _ _
  · rw [puts_other _ _ h]; exact List.prefix_refl _
theorem pre_get {l m : List Im} (h : l <+: m) {i : Nat} {x : Im} (hx : l[i]? = some x) : m[i]? = some x := by
  obtain ⟨r, rfl⟩ := h
  rw [List.getElem?_append_left (lt_of_get hx)]
  exact hx
theorem pre_mem {l m : List Im} (h : l <+: m) {x : Im} (hx : x ∈ l) : x ∈ m := h.subset hx

/-- What ahead of place a holds of sets: they are sound, complete up to there, and nothing has ended from there on. -/
structure Base (g : Gm) (w : List Int) (a : Nat) (f : St) : Prop where
  sound : ∀ b x, x ∈ f.S b → It g w b x
  nodup : ∀ b, (f.S b).Nodup
  start : ∀ i p, g.prods[i]? = some p → p.left = g.start → (⟨i, 0, 0⟩ : Im) ∈ f.S 0
  ahead : ∀ b, b < a → ∀ x s, x ∈ f.S b → symAt g x = some s → s.non = true → ∀ j q, g.prods[j]? = some q → q.left = s.n → (⟨j, 0, b⟩ : Im) ∈ f.S b
  over : ∀ b, b < a → ∀ x s, x ∈ f.S b → symAt g x = some s → s.non = false → w[b]? = some s.n → behind x ∈ f.S (b + 1)
  whole : ∀ b, b < a → ∀ x y, x ∈ f.S b → symAt g x = none → y ∈ f.S x.frm → wants g (leftOf g x) y = true → behind y ∈ f.S b
/-- Of the set at place a the first i have been followed. -/
structure Good (g : Gm) (w : List Int) (a i : Nat) (f : St) : Prop extends Base g w a f where
  ends : ∀ e, e ∈ f.E a → ∃ x, It g w a x ∧ symAt g x = none ∧ leftOf g x = e.1 ∧ x.frm = e.2
  none_ : ∀ b, a < b → f.E b = []
  en : (f.E a).Nodup
  f1 : ∀ k x s, k < i → (f.S a)[k]? = some x → symAt g x = some s → s.non = true → ∀ j q, g.prods[j]? = some q → q.left = s.n → (⟨j, 0, a⟩ : Im) ∈ f.S a
  f2 : ∀ k x s, k < i → (f.S a)[k]? = some x → symAt g x = some s → s.non = false → w[a]? = some s.n → behind x ∈ f.S (a + 1)
  f3 : ∀ k x, k < i → (f.S a)[k]? = some x → symAt g x = none → (leftOf g x, x.frm) ∈ f.E a
  e1 : ∀ e y, e ∈ f.E a → e.2 < a → y ∈ f.S e.2 → wants g e.1 y = true → behind y ∈ f.S a
  e2 : ∀ e k y, e ∈ f.E a → e.2 = a → (f.S a)[k]? = some y → wants g e.1 y = true → behind y ∈ f.S a ∨ i ≤ k

theorem wants_get {g : Gm} {n : Int} {y : Im} (h : wants g n y = true) : ∃ q s, g.prods[y.prod]? = some q ∧ q.right[y.dot]? = some s ∧ s.non = true ∧ s.n = n := by
  obtain ⟨s, h1, h2, h3⟩ := wants_iff.1 h
  obtain ⟨q, h4, h5⟩ := symAt_iff.1 h1
  exact ⟨q, s, h4, h5, h2, h3⟩
theorem It.none_ {g : Gm} {w : List Int} {a : Nat} {x : Im} (h : It g w a x) (hn : symAt g x = none) : ∃ p, g.prods[x.prod]? = some p ∧ x.dot = p.right.length ∧ p.left = leftOf g x := by
  obtain ⟨_, _, p, hp, hd, _⟩ := h.means
  exact ⟨p, hp, (symAt_none hp hd).1 hn, (leftOf_eq hp).symm⟩
theorem It.ended {g : Gm} {w : List Int} {a : Nat} {x y : Im} (h : It g w a x) (hn : symAt g x = none) (hy : It g w x.frm y) (hw : wants g (leftOf g x) y = true) : It g w a (behind y) := by
  obtain ⟨p, hp, hd, hl⟩ := h.none_ hn
  obtain ⟨q, s, hq, hs, h1, h2⟩ := wants_get hw
  exact .whole h hp hd hy hq hs h1 (h2.trans hl.symm)

/-- Sets that grow at one place, from which on nothing is asked of them yet. -/
theorem Base.grow {g : Gm} {w : List Int} {a b : Nat} {f : St} (h : Base g w a f) (hb : a ≤ b) {xs : List Im} (hx : ∀ x ∈ xs, It g w b x) : Base g w a (puts f b xs) where
  sound c x hx' := by
    rcases mem_puts.1 hx' with h1 | ⟨rfl, h1⟩
    · exact h.sound _ _ h1
    · exact hx _ h1
  nodup c := by
    by_cases e : c = b
    · subst e; rw [puts_same]; exact adds_nodup _ (h.nodup _)
    · rw [puts_other _ _ e]; exact h.nodup _
  start i p h1 h2 := mem_puts.2 (.inl (h.start i p h1 h2))
  ahead c hc x s hx' h1 h2 j q h3 h4 := by
    rw [puts_other _ _ (by omega)] at hx' ⊢
    exact h.ahead c hc x s hx' h1 h2 j q h3 h4
  over c hc x s hx' h1 h2 h3 := by
    rw [puts_other _ _ (by omega)] at hx'
    exact mem_puts.2 (.inl (h.over c hc x s hx' h1 h2 h3))
  whole c hc x y hx' h1 hy h2 := by
    rw [puts_other _ _ (by omega)] at hx' ⊢
    have hf := (h.sound _ _ hx').means.1
    rw [puts_other _ _ (by omega)] at hy
    exact h.whole c hc x y hx' h1 hy h2

/-- An item that is followed next, and what follows of it. -/
theorem Good.step {g : Gm} {w : List Int} {a i : Nat} {f : St} (h : Good g w a i f) {x : Im} (hx : (f.S a)[i]? = some x) : Good g w a (i + 1) (followI g w f a x) := by
  have hm : x ∈ f.S a := List.mem_of_getElem? hx
  have hi := h.sound _ _ hm
  unfold followI
  cases hs : symAt g x with
  | none =>
    dsimp only
    have hfr := hi.means.1
    unfold endI
    by_cases he : (leftOf g x, x.frm) ∈ f.E a
    · rw [if_pos he]
      refine { h with f1 := ?_, f2 := ?_, f3 := ?_, e2 := ?_ }
      · intro k y s hk hy h1 h2 j q h3 h4
        rcases Nat.lt_or_ge k i with h5 | h5
        · exact h.f1 k y s h5 hy h1 h2 j q h3 h4
        · obtain rfl : k = i := by omega
          rw [hx] at hy; injection hy with hy; subst hy; rw [hs] at h1; cases h1
      · intro k y s hk hy h1 h2 h3
        rcases Nat.lt_or_ge k i with h5 | h5
        · exact h.f2 k y s h5 hy h1 h2 h3
        · obtain rfl : k = i := by omega
          rw [hx] at hy; injection hy with hy; subst hy; rw [hs] at h1; cases h1
      · intro k y hk hy h1
        rcases Nat.lt_or_ge k i with h5 | h5
        · exact h.f3 k y h5 hy h1
        · obtain rfl : k = i := by omega
          rw [hx] at hy; injection hy with hy; subst hy; exact he
      · intro e k y h1 h2 h3 h4
        rcases h.e2 e k y h1 h2 h3 h4 with h5 | h5
        · exact .inl h5
        · rcases Nat.lt_or_ge i k with h6 | h6
          · exact .inr h6
          · obtain rfl : k = i := by omega
            rw [hx] at h3; injection h3 with h3; subst h3
            obtain ⟨s, h7, _⟩ := wants_iff.1 h4
            rw [hs] at h7; cases h7
    · rw [if_neg he]
      -- what ends now
      let f' : St := ⟨f.S, upd f.E a (f.E a ++ [(leftOf g x, x.frm)])⟩
      have hb' : Base g w a f' := ⟨h.sound, h.nodup, h.start, h.ahead, h.over, h.whole⟩
      have hl : ∀ y ∈ lets g (leftOf g x) (f.S x.frm), It g w a y := fun y hy => by
        obtain ⟨z, h1, h2, rfl⟩ := mem_lets.1 hy
        exact hi.ended hs (h.sound _ _ h1) h2
      have hE : (puts f' a (lets g (leftOf g x) (f.S x.frm))).E a = f.E a ++ [(leftOf g x, x.frm)] := upd_same ..
      have hpre := puts_pre f' a a (lets g (leftOf g x) (f.S x.frm))
      have hget : ∀ k y, k < i + 1 → ((puts f' a (lets g (leftOf g x) (f.S x.frm))).S a)[k]? = some y → (f.S a)[k]? = some y := fun k y hk hy => by
        have hkl : k < (f.S a).length := by have := lt_of_get hx; omega
        have := pre_get hpre (i := k) (x := (f.S a)[k]) (List.getElem?_eq_getElem hkl)
        rw [hy] at this
        injection this with this
        rw [this]; exact List.getElem?_eq_getElem hkl
      refine { hb'.grow (Nat.le_refl a) hl with en := ?_, ends := ?_, none_ := ?_, f1 := ?_, f2 := ?_, f3 := ?_, e1 := ?_, e2 := ?_ }
      · intro e h1
        rw [hE] at h1
        rcases List.mem_append.1 h1 with h1 | h1
        · exact h.ends e h1
        · rw [List.mem_singleton.1 h1]; exact ⟨x, hi, hs, rfl, rfl⟩
      · intro b hb
        show upd f.E a _ b = []
        rw [upd_other _ _ (by omega)]; exact h.none_ b hb
      · rw [hE, List.nodup_append]
        refine ⟨h.en, by simp, fun z hz y hy e => ?_⟩
        have hy : y = (leftOf g x, x.frm) := by simpa using hy
        exact he (hy ▸ e ▸ hz)
      · intro k y s hk hy h1 h2 j q h3 h4
        have hy := hget k y hk hy
        rcases Nat.lt_or_ge k i with h5 | h5
        · exact pre_mem hpre (h.f1 k y s h5 hy h1 h2 j q h3 h4)
        · obtain rfl : k = i := by omega
          rw [hx] at hy; injection hy with hy; subst hy; rw [hs] at h1; cases h1
      · intro k y s hk hy h1 h2 h3
        have hy := hget k y hk hy
        rcases Nat.lt_or_ge k i with h5 | h5
        · exact mem_puts.2 (.inl (h.f2 k y s h5 hy h1 h2 h3))
        · obtain rfl : k = i := by omega
          rw [hx] at hy; injection hy with hy; subst hy; rw [hs] at h1; cases h1
      · intro k y hk hy h1
        have hy := hget k y hk hy
        rw [hE]
        rcases Nat.lt_or_ge k i with h5 | h5
        · exact List.mem_append.2 (.inl (h.f3 k y h5 hy h1))
        · obtain rfl : k = i := by omega
          rw [hx] at hy; injection hy with hy; subst hy; exact List.mem_append.2 (.inr (List.mem_singleton.2 rfl))
      · intro e y h1 h2 h3 h4
        rw [hE] at h1
        rw [puts_other _ _ (by omega)] at h3
        rcases List.mem_append.1 h1 with h1 | h1
        · exact pre_mem hpre (h.e1 e y h1 h2 h3 h4)
        · have h1 := List.mem_singleton.1 h1
          subst h1
          exact mem_puts.2 (.inr ⟨rfl, mem_lets.2 ⟨y, h3, h4, rfl⟩⟩)
      · intro e k y h1 h2 h3 h4
        rw [hE] at h1
        rcases Nat.lt_or_ge k (f.S a).length with hk | hk
        · have hy : (f.S a)[k]? = some y := by
            have := pre_get hpre (i := k) (x := (f.S a)[k]) (List.getElem?_eq_getElem hk)
            rw [h3] at this
            injection this with this
            rw [this]; exact List.getElem?_eq_getElem hk
          rcases List.mem_append.1 h1 with h1 | h1
          · rcases h.e2 e k y h1 h2 hy h4 with h5 | h5
            · exact .inl (pre_mem hpre h5)
            · rcases Nat.lt_or_ge i k with h6 | h6
              · exact .inr h6
              · obtain rfl : k = i := by omega
                rw [hx] at hy; injection hy with hy; subst hy
                obtain ⟨s, h7, _⟩ := wants_iff.1 h4
                rw [hs] at h7; cases h7
          · have h1 := List.mem_singleton.1 h1
            subst h1
            have h2 : x.frm = a := h2
            exact .inl (mem_puts.2 (.inr ⟨rfl, mem_lets.2 ⟨y, by rw [h2]; exact List.mem_of_getElem? hy, h4, rfl⟩⟩))
        · have := lt_of_get hx; exact .inr (by omega)
  | some s =>
    dsimp only
    obtain ⟨p, hp, hps⟩ := symAt_iff.1 hs
    cases hn : s.non with
    | true =>
      rw [if_pos rfl]
      have hl : ∀ y ∈ begs g a s.n, It g w a y := fun y hy => by
        obtain ⟨j, q, rfl, h1, h2⟩ := mem_begs.1 hy
        exact .ahead hi hp hps hn h1 h2
      -- at once: with whatever is put in behind that, as it wants for what has ended
      have key : ∀ zs : List Im, (∀ z ∈ zs, It g w a z) → ((s.n, a) ∈ f.E a → behind x ∈ zs) → Good g w a (i + 1) (puts f a (begs g a s.n ++ zs)) := by
        intro zs hz hw
        have hpre := puts_pre f a a (begs g a s.n ++ zs)
        have hget : ∀ k y, k < (f.S a).length → ((puts f a (begs g a s.n ++ zs)).S a)[k]? = some y → (f.S a)[k]? = some y := fun k y hkl hy => by
          have := pre_get hpre (i := k) (x := (f.S a)[k]) (List.getElem?_eq_getElem hkl)
          rw [hy] at this
          injection this with this
          rw [this]; exact List.getElem?_eq_getElem hkl
        have hil := lt_of_get hx
        refine { h.toBase.grow (Nat.le_refl a) (xs := begs g a s.n ++ zs) (fun z hz' => ?_) with ends := h.ends, none_ := h.none_, en := h.en, f1 := ?_, f2 := ?_, f3 := ?_, e1 := ?_, e2 := ?_ }
        · rcases List.mem_append.1 hz' with h1 | h1
          · exact hl _ h1
          · exact hz _ h1
        · intro k y s' hk hy h1 h2 j q h3 h4
          have hy := hget k y (by omega) hy
          rcases Nat.lt_or_ge k i with h5 | h5
          · exact pre_mem hpre (h.f1 k y s' h5 hy h1 h2 j q h3 h4)
          · obtain rfl : k = i := by omega
            rw [hx] at hy; injection hy with hy; subst hy; rw [hs] at h1; injection h1 with h1; subst h1
            exact mem_puts.2 (.inr ⟨rfl, List.mem_append.2 (.inl (mem_begs.2 ⟨j, q, rfl, h3, h4⟩))⟩)
        · intro k y s' hk hy h1 h2 h3
          have hy := hget k y (by omega) hy
          rcases Nat.lt_or_ge k i with h5 | h5
          · exact mem_puts.2 (.inl (h.f2 k y s' h5 hy h1 h2 h3))
          · obtain rfl : k = i := by omega
            rw [hx] at hy; injection hy with hy; subst hy; rw [hs] at h1; injection h1 with h1; subst h1; rw [hn] at h2; cases h2
        · intro k y hk hy h1
          have hy := hget k y (by omega) hy
          rcases Nat.lt_or_ge k i with h5 | h5
          · exact h.f3 k y h5 hy h1
          · obtain rfl : k = i := by omega
            rw [hx] at hy; injection hy with hy; subst hy; rw [hs] at h1; cases h1
        · intro e y h1 h2 h3 h4
          rw [puts_other _ _ (by omega)] at h3
          exact pre_mem hpre (h.e1 e y h1 h2 h3 h4)
        · intro e k y h1 h2 h3 h4
          rcases Nat.lt_or_ge k (f.S a).length with hk | hk
          · have hy := hget k y hk h3
            rcases h.e2 e k y h1 h2 hy h4 with h5 | h5
            · exact .inl (pre_mem hpre h5)
            · rcases Nat.lt_or_ge i k with h6 | h6
              · exact .inr h6
              · obtain rfl : k = i := by omega
                rw [hx] at hy; injection hy with hy; subst hy
                obtain ⟨s', h7, _, h8⟩ := wants_iff.1 h4
                rw [hs] at h7; injection h7 with h7; subst h7
                have : e = (s.n, a) := by rw [h8, ← h2]
                subst this
                exact .inl (mem_puts.2 (.inr ⟨rfl, List.mem_append.2 (.inr (hw h1))⟩))
          · exact .inr (by omega)
      unfold nonI
      by_cases he : (s.n, a) ∈ f.E a
      · rw [if_pos he, puts_puts]
        refine key [behind x] (fun z hz => ?_) fun _ => List.mem_singleton.2 rfl
        rw [List.mem_singleton.1 hz]
        obtain ⟨y, h1, h2, h3, h4⟩ := h.ends _ he
        refine h1.ended h2 (y := x) (by rw [h4]; exact hi) ?_
        rw [h3]
        exact wants_iff.2 ⟨s, hs, hn, rfl⟩
      · rw [if_neg he]
        have := key [] (fun _ h => by cases h) fun h1 => absurd h1 he
        rwa [List.append_nil] at this
    | false =>
      rw [if_neg (by simp)]
      have key : ∀ zs : List Im, (∀ z ∈ zs, It g w (a + 1) z) → (w[a]? = some s.n → behind x ∈ zs) → Good g w a (i + 1) (puts f (a + 1) zs) := by
        intro zs hz hw
        have hsa : (puts f (a + 1) zs).S a = f.S a := puts_other _ _ (by omega)
        refine { h.toBase.grow (Nat.le_succ a) hz with ends := h.ends, none_ := h.none_, en := h.en, f1 := ?_, f2 := ?_, f3 := ?_, e1 := ?_, e2 := ?_ }
        · intro k y s' hk hy h1 h2 j q h3 h4
          rw [hsa] at hy ⊢
          rcases Nat.lt_or_ge k i with h5 | h5
          · exact h.f1 k y s' h5 hy h1 h2 j q h3 h4
          · obtain rfl : k = i := by omega
            rw [hx] at hy; injection hy with hy; subst hy; rw [hs] at h1; injection h1 with h1; subst h1; rw [hn] at h2; cases h2
        · intro k y s' hk hy h1 h2 h3
          rw [hsa] at hy
          rcases Nat.lt_or_ge k i with h5 | h5
          · exact mem_puts.2 (.inl (h.f2 k y s' h5 hy h1 h2 h3))
          · obtain rfl : k = i := by omega
            rw [hx] at hy; injection hy with hy; subst hy; rw [hs] at h1; injection h1 with h1; subst h1
            exact mem_puts.2 (.inr ⟨rfl, hw h3⟩)
        · intro k y hk hy h1
          rw [hsa] at hy
          rcases Nat.lt_or_ge k i with h5 | h5
          · exact h.f3 k y h5 hy h1
          · obtain rfl : k = i := by omega
            rw [hx] at hy; injection hy with hy; subst hy; rw [hs] at h1; cases h1
        · intro e y h1 h2 h3 h4
          rw [puts_other _ _ (by omega)] at h3
          rw [hsa]
          exact h.e1 e y h1 h2 h3 h4
        · intro e k y h1 h2 h3 h4
          rw [hsa] at h3 ⊢
          rcases h.e2 e k y h1 h2 h3 h4 with h5 | h5
          · exact .inl h5
          · rcases Nat.lt_or_ge i k with h6 | h6
            · exact .inr h6
            · obtain rfl : k = i := by omega
              rw [hx] at h3; injection h3 with h3; subst h3
              obtain ⟨s', h7, h8, _⟩ := wants_iff.1 h4
              rw [hs] at h7; injection h7 with h7; subst h7; rw [hn] at h8; cases h8
      by_cases he : w[a]? = some s.n
      · rw [if_pos he]
        refine key [behind x] (fun z hz => ?_) fun _ => List.mem_singleton.2 rfl
        rw [List.mem_singleton.1 hz]
        exact .over hi hp hps hn he
      · rw [if_neg he]
        have := key [] (fun _ h => by cases h) fun h1 => absurd h1 he
        rwa [puts_nil] at this
/-- All have been followed: the set is complete; put in order it is so, too. -/
theorem Good.done {g : Gm} {w : List Int} {a i : Nat} {f : St} (h : Good g w a i f) (hi : (f.S a).length ≤ i) {l : List Im} (hl : l.Perm (f.S a)) : Good g w (a + 1) 0 ⟨upd f.S a l, f.E⟩ := by
  have hm : ∀ b x, x ∈ upd f.S a l b ↔ x ∈ f.S b := fun b x => by
    by_cases e : b = a
    · subst e; rw [upd_same]; exact hl.mem_iff
    · rw [upd_other _ _ e]
  have hk : ∀ x, x ∈ f.S a → ∃ k, k < i ∧ (f.S a)[k]? = some x := fun x hx => by
    obtain ⟨k, hk⟩ := List.mem_iff_getElem?.1 hx
    exact ⟨k, by have := lt_of_get hk; omega, hk⟩
  refine { sound := ?_, nodup := ?_, start := ?_, ahead := ?_, over := ?_, whole := ?_, ends := ?_, none_ := ?_, en := ?_, f1 := ?_, f2 := ?_, f3 := ?_, e1 := ?_, e2 := ?_ }
  · intro b x hx; exact h.sound b x ((hm b x).1 hx)
  · intro b
    by_cases e : b = a
    · subst e; show (upd f.S b l b).Nodup; rw [upd_same]; exact hl.nodup_iff.2 (h.nodup b)
    · show (upd f.S a l b).Nodup; rw [upd_other _ _ e]; exact h.nodup b
  · intro i p h1 h2; exact (hm 0 _).2 (h.start i p h1 h2)
  · intro b hb x s hx h1 h2 j q h3 h4
    have hx2 := (hm b x).1 hx
    refine (hm b _).2 ?_
    rcases Nat.lt_or_ge b a with hb | hb
    · exact h.ahead b hb x s hx2 h1 h2 j q h3 h4
    · obtain rfl : b = a := by omega
      obtain ⟨k, h5, h6⟩ := hk x hx2
      exact h.f1 k x s h5 h6 h1 h2 j q h3 h4
  · intro b hb x s hx h1 h2 h3
    have hx2 := (hm b x).1 hx
    refine (hm (b + 1) _).2 ?_
    rcases Nat.lt_or_ge b a with hb | hb
    · exact h.over b hb x s hx2 h1 h2 h3
    · obtain rfl : b = a := by omega
      obtain ⟨k, h5, h6⟩ := hk x hx2
      exact h.f2 k x s h5 h6 h1 h2 h3
  · intro b hb x y hx h1 hy h2
    have hx2 := (hm b x).1 hx
    have hy2 := (hm x.frm y).1 hy
    refine (hm b _).2 ?_
    rcases Nat.lt_or_ge b a with hb | hb
    · exact h.whole b hb x y hx2 h1 hy2 h2
    · obtain rfl : b = a := by omega
      obtain ⟨k, h5, h6⟩ := hk x hx2
      have h7 := h.f3 k x h5 h6 h1
      have h8 := (h.sound _ _ hx2).means.1
      rcases Nat.lt_or_ge x.frm b with h9 | h9
      · exact h.e1 _ y h7 h9 hy2 h2
      · have h10 : x.frm = b := by omega
        rw [h10] at hy2
        obtain ⟨m, h11, h12⟩ := hk y hy2
        rcases h.e2 _ m y h7 h10 h12 h2 with h13 | h13
        · exact h13
        · omega
  · intro e he
    have h1 : e ∈ f.E (a + 1) := he
    rw [h.none_ _ (Nat.lt_succ_self a)] at h1; cases h1
  · intro b hb; exact h.none_ b (by omega)
  · show (f.E (a + 1)).Nodup; rw [h.none_ _ (Nat.lt_succ_self a)]; exact List.nodup_nil
  · intro k x s hk; omega
  · intro k x s hk; omega
  · intro k x hk; omega
  · intro e y he
    have h1 : e ∈ f.E (a + 1) := he
    rw [h.none_ _ (Nat.lt_succ_self a)] at h1; cases h1
  · intro e k y he
    have h1 : e ∈ f.E (a + 1) := he
    rw [h.none_ _ (Nat.lt_succ_self a)] at h1; cases h1
/-- What complete sets hold are just the word's items. -/
theorem Base.all {g : Gm} {w : List Int} {f : St} {a : Nat} (h : Base g w (a + 1) f) {b : Nat} (hb : b ≤ a) (x : Im) : x ∈ f.S b ↔ It g w b x := by
  constructor
  · exact h.sound b x
  · intro hx
    refine It.least (last := a) (S := fun b x => x ∈ f.S b) ⟨h.start, ?_, ?_, ?_⟩ hx hb
    · intro c y p s j q hc hy h1 h2 h3 h4 h5
      exact h.ahead c (by omega) y s hy (symAt_iff.2 ⟨p, h1, h2⟩) h3 j q h4 h5
    · intro c y p s hc hy h1 h2 h3 h4
      exact h.over c (by omega) y s hy (symAt_iff.2 ⟨p, h1, h2⟩) h3 h4
    · intro c y z p q s hc hy hf h1 h2 hz h3 h4 h5 h6
      refine h.whole c (by omega) y z hy ?_ hz ?_
      · exact (symAt_none h1 (Nat.le_of_eq h2)).2 h2
      · exact wants_iff.2 ⟨s, symAt_iff.2 ⟨q, h3, h4⟩, h5, by rw [h6, leftOf_eq h1]⟩
/-- How it begins: Start's productions alone. -/
theorem Good.begin_ (g : Gm) (w : List Int) : Good g w 0 0 (puts ⟨fun _ => [], fun _ => []⟩ 0 (begs g 0 g.start)) := by
  have hb : Base g w 0 (puts ⟨fun _ => [], fun _ => []⟩ 0 (begs g 0 g.start)) := by
    refine { sound := ?_, nodup := ?_, start := ?_, ahead := ?_, over := ?_, whole := ?_ }
    · intro b x hx
      rcases mem_puts.1 hx with h1 | ⟨rfl, h1⟩
      · cases h1
      · obtain ⟨j, q, rfl, h2, h3⟩ := mem_begs.1 h1
        exact .start h2 h3
    · intro b
      by_cases e : b = 0
      · subst e; rw [puts_same]; exact adds_nodup _ List.nodup_nil
      · rw [puts_other _ _ e]; exact List.nodup_nil
    · intro i p h1 h2
      exact mem_puts.2 (.inr ⟨rfl, mem_begs.2 ⟨i, p, rfl, h1, h2⟩⟩)
    · intro b hb; omega
    · intro b hb; omega
    · intro b hb; omega
  refine { hb with ends := ?_, none_ := ?_, en := List.nodup_nil, f1 := ?_, f2 := ?_, f3 := ?_, e1 := ?_, e2 := ?_ }
  · intro e he; cases he
  · intro b _; rfl
  · intro k x s hk; omega
  · intro k x s hk; omega
  · intro k x hk; omega
  · intro e y he; cases he
  · intro e k y he; cases he

/-- Of how many items there are. -/
theorem It.small {g : Gm} (hg : Ok g) {w : List Int} {a : Nat} {x : Im} (h : It g w a x) : x.prod < 60 ∧ x.dot ≤ 8 ∧ x.frm ≤ a := by
  obtain ⟨h1, _, p, hp, hd, _⟩ := h.means
  have h3 := hg.2.2.2.2.2.2.1
  have h4 := (hg.2.2.2.2.2.2.2 p (List.mem_of_getElem? hp)).2.2.1
  have := lt_of_get hp
  exact ⟨by omega, by omega, h1⟩
theorem few {l : List Im} (hn : l.Nodup) {a : Nat} (h : ∀ x ∈ l, x.prod < 60 ∧ x.dot ≤ 8 ∧ x.frm ≤ a) : l.length ≤ 60 * (9 * (a + 1)) := by
  let cd : Im → Nat := fun x => x.prod * (9 * (a + 1)) + (x.dot * (a + 1) + x.frm)
  have hc : (l.map cd).Nodup := by
    rw [List.nodup_iff_pairwise_ne, List.pairwise_map]
    refine List.Pairwise.imp_of_mem ?_ hn
    intro x y hx hy hne he
    obtain ⟨x1, x2, x3⟩ := h x hx
    obtain ⟨y1, y2, y3⟩ := h y hy
    apply hne
    have he : x.prod * (9 * (a + 1)) + (x.dot * (a + 1) + x.frm) = y.prod * (9 * (a + 1)) + (y.dot * (a + 1) + y.frm) := he
    have lt : ∀ z : Im, z.dot ≤ 8 → z.frm ≤ a → z.dot * (a + 1) + z.frm < 9 * (a + 1) := fun z h1 h2 => by
      have : z.dot * (a + 1) ≤ 8 * (a + 1) := Nat.mul_le_mul_right _ h1
      omega
    have dm : ∀ m q r : Nat, r < m → (q * m + r) / m = q ∧ (q * m + r) % m = r := fun m q r hr => by
      have hm : 0 < m := by omega
      exact ⟨by rw [Nat.add_comm, Nat.add_mul_div_right _ _ hm, Nat.div_eq_of_lt hr, Nat.zero_add], by rw [Nat.add_comm, Nat.add_mul_mod_self_right, Nat.mod_eq_of_lt hr]⟩
    have ex := dm (9 * (a + 1)) x.prod _ (lt x x2 x3)
    have ey := dm (9 * (a + 1)) y.prod _ (lt y y2 y3)
    rw [he] at ex
    have e1 : x.prod = y.prod := ex.1.symm.trans ey.1
    have e2 : x.dot * (a + 1) + x.frm = y.dot * (a + 1) + y.frm := ex.2.symm.trans ey.2
    have fx := dm (a + 1) x.dot x.frm (by omega)
    have fy := dm (a + 1) y.dot y.frm (by omega)
    rw [e2] at fx
    have e3 : x.dot = y.dot := fx.1.symm.trans fy.1
    have e4 : x.frm = y.frm := fx.2.symm.trans fy.2
    obtain ⟨a1, a2, a3⟩ := x
    obtain ⟨b1, b2, b3⟩ := y
    simp only at e1 e3 e4
    rw [e1, e3, e4]
  have := Kn.nodup_le (K := l.map cd) (K' := List.range (60 * (9 * (a + 1)))) hc (fun c hc => by
    obtain ⟨x, hx, rfl⟩ := List.mem_map.1 hc
    obtain ⟨x1, x2, x3⟩ := h x hx
    rw [List.mem_range]
    show x.prod * (9 * (a + 1)) + (x.dot * (a + 1) + x.frm) < _
    have h1 : x.prod * (9 * (a + 1)) ≤ 59 * (9 * (a + 1)) := Nat.mul_le_mul_right _ (by omega)
    have h2 : x.dot * (a + 1) ≤ 8 * (a + 1) := Nat.mul_le_mul_right _ x2
    omega)
  rwa [List.length_map, List.length_range] at this

/-- Of how many things end. -/
theorem Good.fewE {g : Gm} (hg : Ok g) {w : List Int} {a i : Nat} {f : St} (h : Good g w a i f) : (f.E a).length ≤ 24 * (a + 1) := by
  have hb : ∀ e ∈ f.E a, 0 ≤ e.1 ∧ e.1 < 24 ∧ e.2 ≤ a := fun e he => by
    obtain ⟨x, hx, hn, hl, hf⟩ := h.ends e he
    obtain ⟨p, hp, _, hpl⟩ := hx.none_ hn
    have h1 := hg.2.2.2.2.2.2.2 p (List.mem_of_getElem? hp)
    have h2 := hg.2.2.2.1
    have h3 := h1.1
    have h4 := h1.2.1
    have h5 := hx.means.1
    rw [← hl, ← hpl, ← hf]
    exact ⟨h3, by omega, h5⟩
  let cd : Int × Nat → Nat := fun e => e.1.toNat * (a + 1) + e.2
  have hc : ((f.E a).map cd).Nodup := by
    rw [List.nodup_iff_pairwise_ne, List.pairwise_map]
    refine List.Pairwise.imp_of_mem ?_ h.en
    intro x y hx hy hne he
    obtain ⟨x1, x2, x3⟩ := hb x hx
    obtain ⟨y1, y2, y3⟩ := hb y hy
    apply hne
    have he : x.1.toNat * (a + 1) + x.2 = y.1.toNat * (a + 1) + y.2 := he
    have dm : ∀ q r : Nat, r < a + 1 → (q * (a + 1) + r) / (a + 1) = q ∧ (q * (a + 1) + r) % (a + 1) = r := fun q r hr =>
      ⟨by rw [Nat.add_comm, Nat.add_mul_div_right _ _ (Nat.succ_pos a), Nat.div_eq_of_lt hr, Nat.zero_add], by rw [Nat.add_comm, Nat.add_mul_mod_self_right, Nat.mod_eq_of_lt hr]⟩
    have ex := dm x.1.toNat x.2 (by omega)
    have ey := dm y.1.toNat y.2 (by omega)
    rw [he] at ex
    have e1 : x.1.toNat = y.1.toNat := ex.1.symm.trans ey.1
    have e2 : x.2 = y.2 := ex.2.symm.trans ey.2
    obtain ⟨p, q⟩ := x
    obtain ⟨r, t⟩ := y
    simp only at x1 y1 e1 e2
    rw [show p = r by omega, e2]
  have := Kn.nodup_le (K := (f.E a).map cd) (K' := List.range (24 * (a + 1))) hc (fun c hc => by
    obtain ⟨x, hx, rfl⟩ := List.mem_map.1 hc
    obtain ⟨x1, x2, x3⟩ := hb x hx
    rw [List.mem_range]
    show x.1.toNat * (a + 1) + x.2 < _
    have h1 : x.1.toNat * (a + 1) ≤ 23 * (a + 1) := Nat.mul_le_mul_right _ (by omega)
    omega)
  rwa [List.length_map, List.length_range] at this
/-- What is followed at a place changes nothing at those ahead. -/
theorem follow_other (g : Gm) (w : List Int) (f : St) (a : Nat) (x : Im) {b : Nat} (hb : b < a) : (followI g w f a x).S b = f.S b := by
  unfold followI
  cases symAt g x with
  | none =>
    dsimp only
    unfold endI
    split
    · rfl
    · exact puts_other _ _ (by omega)
  | some s =>
    dsimp only
    split
    · unfold nonI
      split
      · rw [puts_other _ _ (by omega), puts_other _ _ (by omega)]
      · rw [puts_other _ _ (by omega)]
    · split
      · exact puts_other _ _ (by omega)
      · rfl

/-- The order in a set. -/
def lt (x y : Im) : Prop := x.prod < y.prod ∨ (x.prod = y.prod ∧ (x.dot < y.dot ∨ (x.dot = y.dot ∧ x.frm < y.frm)))
instance (x y : Im) : Decidable (lt x y) := by unfold lt; infer_instance
theorem lt_irrefl (x : Im) : ¬ lt x x := by unfold lt; omega
theorem lt_trans {x y z : Im} (h : lt x y) (k : lt y z) : lt x z := by unfold lt at *; omega
theorem lt_total {x y : Im} (h : x ≠ y) : lt x y ∨ lt y x := by
  obtain ⟨a, b, c⟩ := x
  obtain ⟨d, e, f⟩ := y
  unfold lt
  simp only
  have : ¬ (a = d ∧ b = e ∧ c = f) := fun h2 => h (by rw [h2.1, h2.2.1, h2.2.2])
  omega
def Inc (l : List Im) : Prop := l.Pairwise lt
/-- Two that are in order, of the same items, are one. -/
theorem inc_same : ∀ {l m : List Im}, Inc l → Inc m → (∀ x, x ∈ l ↔ x ∈ m) → l = m
  | [], [], _, _, _ => rfl
  | [], y :: m, _, _, h => absurd ((h y).2 (by simp)) (by simp)
  | x :: l, [], _, _, h => absurd ((h x).1 (by simp)) (by simp)
  | x :: l, y :: m, hl, hm, h => by
    have hl := List.pairwise_cons.1 hl
    have hm := List.pairwise_cons.1 hm
    have e : x = y := by
      by_cases e : x = y
      · exact e
      · have h1 : x ∈ m := by
          rcases List.mem_cons.1 ((h x).1 (by simp)) with h1 | h1
          · exact absurd h1 e
          · exact h1
        have h2 : y ∈ l := by
          rcases List.mem_cons.1 ((h y).2 (by simp)) with h2 | h2
          · exact absurd h2.symm e
          · exact h2
        exact absurd (lt_trans (hl.1 y h2) (hm.1 x h1)) (lt_irrefl x)
    subst e
    congr 1
    refine inc_same hl.2 hm.2 fun z => ⟨fun hz => ?_, fun hz => ?_⟩
    · rcases List.mem_cons.1 ((h z).1 (List.mem_cons_of_mem _ hz)) with h1 | h1
      · subst h1; exact absurd (hl.1 z hz) (lt_irrefl z)
      · exact h1
    · rcases List.mem_cons.1 ((h z).2 (List.mem_cons_of_mem _ hz)) with h1 | h1
      · subst h1; exact absurd (hm.1 z hz) (lt_irrefl z)
      · exact h1
theorem Inc.nodup {l : List Im} (h : Inc l) : l.Nodup := by
  rw [List.nodup_iff_pairwise_ne]
  refine List.Pairwise.imp (fun {a b} (hab : lt a b) => ?_) h
  intro e
  subst e
  exact lt_irrefl _ hab
end Go.Proofs.Ytckckejgocbkkaa.Ch
/- Maps that keep what is new: which keys stand in them; kept.put, of items and of what ended. -/
namespace Go.Proofs.Ytckckejgocbkkaa
open Go.RowKit
open Go.Maps (Keyed)

theorem plainElem_bool_inv {P : Program} {e : TypeId} (he : P.underlying e = some .bool) {v : Value} {z : DataW Unit × List MemPlace} (h : plainElem P e v = some z) : ∃ b, v = .bool b ∧ z = (.lit (.bool b), []) := by
  unfold plainElem at h
  rw [he] at h
  cases v <;> simp at h
  exact ⟨_, rfl, h.symm⟩
/-- Is it new? -/
def newB {α : Type} [DecidableEq α] (l : List α) (x : α) : Bool := !decide (x ∈ l)
theorem newB_yes {α : Type} [DecidableEq α] {l : List α} {x : α} (h : x ∉ l) : newB l x = true := by unfold newB; rw [decide_eq_false h]; rfl
theorem newB_no {α : Type} [DecidableEq α] {l : List α} {x : α} (h : x ∈ l) : newB l x = false := by unfold newB; rw [decide_eq_true h]; rfl
/-- The map at block b has just these keys. -/
def MapS {α : Type} [DecidableEq α] (kt : TypeId) (kl : α → Lit) (ok : α → Prop) (w : World) (b : Nat) (l : List α) : Prop :=
  ∃ (D : DataW Unit) (n : Nat), w.ownsMap Try.prog kt (plainElem Try.prog 4) b n D ∧ n ≤ l.length ∧ ∀ x, ok x → D.atKey (kl x) (.lit (.bool false)) = .lit (.bool (decide (x ∈ l)))
section
variable {α : Type} [DecidableEq α] {kt : TypeId} {kl : α → Lit} {ok : α → Prop} {w w' : World} {b : Nat} {l : List α}
theorem MapS.lt (h : MapS kt kl ok w b l) : b < w.heap.size := by obtain ⟨D, n, h1, _⟩ := h; exact h1.lt
theorem MapS.of_block (h : MapS kt kl ok w b l) (e : w'.heap[b]? = w.heap[b]?) : MapS kt kl ok w' b l := by
  obtain ⟨D, n, ⟨es, clock, h1, h2⟩, h3⟩ := h
  exact ⟨D, n, ⟨es, clock, e.trans h1, h2⟩, h3⟩
theorem MapS.bl (h : MapS kt kl ok w b l) (hb : Bl w w') : MapS kt kl ok w' b l := h.of_block (hb.block b h.lt)
theorem MapS.fr {S : Nat → Prop} (h : MapS kt kl ok w b l) (hf : Fr S w w') (hn : ¬ S b) : MapS kt kl ok w' b l := h.of_block (hf.block b h.lt hn)
theorem MapS.new (w : World) : MapS kt kl ok (w.alloc (.map #[] 0)) w.heap.size [] := ⟨.map [], 0, World.ownsMap_made _ _ _ _, Nat.le_refl _, fun _ _ => rfl⟩
/-- Its block is no row's. -/
theorem MapS.apart (h : MapS kt kl ok w b l) {g : Nat} {t : TypeId} {cs : Array Value} (hg : Bk w g t cs) : b ≠ g := by
  rintro rfl
  obtain ⟨D, n, ⟨es, clock, h1, _⟩, _⟩ := h
  unfold Bk at hg
  rw [h1] at hg; cases hg
theorem MapS.row (h : MapS kt kl ok w b l) {base n size : Nat} {e : TypeId} {v : Value} {xs : List Value} (ho : w.ownsRow base e size v n xs) : v.ownBlock ≠ some b := by
  rcases ho.2 with ⟨rfl, _⟩ | ⟨g', cap, cur, rfl, _, hh, _⟩
  · simp [Value.ownBlock]
  · intro he
    have : g' = b := by simpa [Value.ownBlock] using he
    subst this
    exact h.apart (t := e) (cs := cur) hh rfl
set_option maxRecDepth 100000 in
theorem bool_zero (w : World) : (zeroValue 4).run Try.prog w = .ok (.bool false) w := by kernel_rfl
set_option maxRecDepth 100000 in
theorem MapS.look {t : TypeId} (h : MapS kt kl ok w b l) (K : Keyed Try.prog kt) (ht : Try.prog.underlying t = some (.map kt 4)) {x : α} (hx : ok x) {v : Value} (hk : keyOf Try.prog kt v = some (kl x)) :
    (Instr.lookup t (.map (some b)) v false).run Try.prog w = .ok (.bool (decide (x ∈ l))) w := by
  obtain ⟨D, n, h1, _, h3⟩ := h
  obtain ⟨z, ps, hrun, hz⟩ := h1.lookup K ht (bool_zero w) (plainElem_bool Try.underlying4 false) hk
  obtain ⟨c, rfl, hc⟩ := plainElem_bool_inv Try.underlying4 hz
  rw [h3 x hx] at hc
  injection hc with hc
  injection hc with hc
  injection hc with hc
  rw [hrun, hc]
set_option maxRecDepth 100000 in
theorem MapS.store {t : TypeId} (h : MapS kt kl ok w b l) (K : Keyed Try.prog kt) (ht : Try.prog.underlying t = some (.map kt 4)) (hl : l.length < maxLen) {x : α} (hx : ok x) (hn : x ∉ l) {v : Value} (hk : keyOf Try.prog kt v = some (kl x))
    (hi : ∀ y, ok y → kl y = kl x → y = x) (hlit : WideAt.IsKeyLit (kl x)) :
    ∃ w', (Instr.mapUpdate t (.map (some b)) v (.bool true)).run Try.prog w = .ok () w' ∧ MapS kt kl ok w' b (l ++ [x]) ∧ w.grownBy w' (some b) := by
  obtain ⟨D, n, h1, h2, h3⟩ := h
  obtain ⟨w', hrun, r1, r2⟩ := h1.update K ht (by omega) hk (plainElem_bool Try.underlying4 true)
  refine ⟨w', hrun, ⟨_, _, r1, by rw [List.length_append]; show _ ≤ _ + 1; omega, fun y hy => ?_⟩, r2⟩
  by_cases e : y = x
  · subst e
    rw [Maps.atKey_put_same h1.isMap hlit]
    simp
  · rw [Maps.atKey_put_other (fun e2 => e (hi y hy e2)), h3 y hy]
    simp [e]
end
set_option maxRecDepth 100000 in
theorem wpList_lookS {α : Type} [DecidableEq α] {kt : TypeId} {kl : α → Lit} {ok : α → Prop} {w : World} {b : Nat} {l : List α} {ops : Array Oper} {rest : List Oper} {o : Oper} {a : Act} {Q : Exit → Act → World → Prop} (hg : o.guard = none) (m x : Operand) (t : TypeId) (hop : o.op = Op.lookup t m x false)
    (h : MapS kt kl ok w b l) (K : Keyed Try.prog kt) (ht : Try.prog.underlying t = some (.map kt 4)) (y : α) (hy : ok y) (hm : a.eval m = .map (some b)) (hk : keyOf Try.prog kt (a.eval x) = some (kl y))
    (hK : wpList Try.prog ops Q rest (a.put o.dst (.bool (decide (y ∈ l)))) w) : wpList Try.prog ops Q (o :: rest) a w := by
  refine wpList_plain hg fun K' hK' => ?_
  have hrun := h.look K ht hy hk
  unfold Oper.wp
  simp [execOp, hop, hm, hrun, Result.andThen]
  exact hK' _ _ hK
theorem wpList_lookS_yes {α : Type} [DecidableEq α] {kt : TypeId} {kl : α → Lit} {ok : α → Prop} {w : World} {b : Nat} {l : List α} {ops : Array Oper} {rest : List Oper} {o : Oper} {a : Act} {Q : Exit → Act → World → Prop} (hg : o.guard = none) (m x : Operand) (t : TypeId) (hop : o.op = Op.lookup t m x false)
    (h : MapS kt kl ok w b l) (K : Keyed Try.prog kt) (ht : Try.prog.underlying t = some (.map kt 4)) (y : α) (hy : ok y) (hl : y ∈ l) (hm : a.eval m = .map (some b)) (hk : keyOf Try.prog kt (a.eval x) = some (kl y))
    (hK : wpList Try.prog ops Q rest (a.put o.dst (.bool true)) w) : wpList Try.prog ops Q (o :: rest) a w :=
  wpList_lookS hg m x t hop h K ht y hy hm hk (by rw [decide_eq_true hl]; exact hK)
theorem wpList_lookS_no {α : Type} [DecidableEq α] {kt : TypeId} {kl : α → Lit} {ok : α → Prop} {w : World} {b : Nat} {l : List α} {ops : Array Oper} {rest : List Oper} {o : Oper} {a : Act} {Q : Exit → Act → World → Prop} (hg : o.guard = none) (m x : Operand) (t : TypeId) (hop : o.op = Op.lookup t m x false)
    (h : MapS kt kl ok w b l) (K : Keyed Try.prog kt) (ht : Try.prog.underlying t = some (.map kt 4)) (y : α) (hy : ok y) (hl : y ∉ l) (hm : a.eval m = .map (some b)) (hk : keyOf Try.prog kt (a.eval x) = some (kl y))
    (hK : wpList Try.prog ops Q rest (a.put o.dst (.bool false)) w) : wpList Try.prog ops Q (o :: rest) a w :=
  wpList_lookS hg m x t hop h K ht y hy hm hk (by rw [decide_eq_false hl]; exact hK)
set_option maxRecDepth 100000 in
theorem wpList_storeS {α : Type} [DecidableEq α] {kt : TypeId} {kl : α → Lit} {ok : α → Prop} {w : World} {b : Nat} {l : List α} {ops : Array Oper} {rest : List Oper} {o : Oper} {a : Act} {Q : Exit → Act → World → Prop} (hg : o.guard = none) (m x v : Operand) (t : TypeId) (hop : o.op = Op.mapUpdate t m x v)
    (h : MapS kt kl ok w b l) (K : Keyed Try.prog kt) (ht : Try.prog.underlying t = some (.map kt 4)) (hl : l.length < maxLen) (y : α) (hy : ok y) (hn : y ∉ l) (hm : a.eval m = .map (some b)) (hk : keyOf Try.prog kt (a.eval x) = some (kl y)) (hv : a.eval v = .bool true)
    (hi : ∀ z, ok z → kl z = kl y → z = y) (hlit : WideAt.IsKeyLit (kl y))
    (hK : ∀ w', MapS kt kl ok w' b (l ++ [y]) → w.grownBy w' (some b) → wpList Try.prog ops Q rest (a.put o.dst undef) w') : wpList Try.prog ops Q (o :: rest) a w := by
  refine wpList_plain hg fun K' hK' => ?_
  obtain ⟨w', hrun, r1, r2⟩ := h.store K ht hl hy hn hk hi hlit
  unfold Oper.wp
  simp [execOp, hop, hm, hv, hrun, Result.andThen]
  exact hK' _ _ (hK w' r1 r2)

/-! ### Items as keys -/
set_option maxRecDepth 100000 in
theorem ch_laid : laidOutB Try.prog = true := by kernel_rfl
set_option maxRecDepth 100000 in
theorem im_row : (42 : TypeId) < Try.prog.types.size := of_decide_eq_true (by kernel_rfl)
set_option maxRecDepth 100000 in
theorem im_wide : (match Try.prog.underlying 42 with | some (.array _ _) | some (.struct _) => true | _ => false) = true := by rw [Try.underlying42]
set_option maxRecDepth 100000 in
theorem im_law : Keyed Try.prog 42 := Keyed.of_law (deep_law_laid ch_laid (m := 2) (by omega) im_row (by kernel_rfl) im_wide)
set_option maxRecDepth 100000 in
theorem im_cells : Try.prog.cellsOf 42 = 3 := by kernel_rfl
set_option maxRecDepth 100000 in
theorem im_int : Try.prog.cellsOf 3 = 1 := by kernel_rfl
set_option maxRecDepth 100000 in
theorem im_keyType : Try.prog.keyType 42 = true := by kernel_rfl
/-- An item's cells, its value, it as a key. -/
def imc (x : Ch.Im) : List Value := [.int .i64 (x.prod : Int), .int .i64 (x.dot : Int), .int .i64 (x.frm : Int)]
def imv (x : Ch.Im) : Value := .agg #[.int .i64 (x.prod : Int), .int .i64 (x.dot : Int), .int .i64 (x.frm : Int)]
def imKey (x : Ch.Im) : Lit := .string (keyBytes [.int .i64 (x.prod : Int), .int .i64 (x.dot : Int), .int .i64 (x.frm : Int)])
def imOk (x : Ch.Im) : Prop := x.prod < 1000000 ∧ x.dot < 1000000 ∧ x.frm < 1000000
set_option maxRecDepth 100000 in
theorem wf_ch {n : Int} (h0 : 0 ≤ n) (h : n < 1000000) : (Lit.int .i64 n).wf = true := by
  simp [Lit.wf, IntKind.min, IntKind.max, IntKind.bits, IntKind.signed]; omega
set_option maxRecDepth 100000 in
theorem key_item {x : Ch.Im} (h : imOk x) : keyOf Try.prog 42 (imv x) = some (imKey x) := by
  obtain ⟨m, hm⟩ : ∃ m, Try.prog.types.size = m + 1 := ⟨Try.prog.types.size - 1, by
    have : 0 < Try.prog.types.size := of_decide_eq_true (by kernel_rfl)
    omega⟩
  have w1 := wf_ch (n := (x.prod : Int)) (by omega) (by have := h.1; omega)
  have w2 := wf_ch (n := (x.dot : Int)) (by omega) (by have := h.2.1; omega)
  have w3 := wf_ch (n := (x.frm : Int)) (by omega) (by have := h.2.2; omega)
  unfold keyOf imv
  simp only [Try.underlying42]
  rw [if_pos (by simp [im_keyType, Value.formed, Try.underlying42, im_cells]), hm]
  unfold Program.keyLits
  simp only [Try.underlying42, Value.cells]
  simp [im_cells, im_int, Program.keyLits, Try.underlying3, w1, w2, w3, imKey]
set_option maxRecDepth 100000 in
theorem imKey_inj {x y : Ch.Im} (hx : imOk x) (hy : imOk y) (h : imKey x = imKey y) : x = y := by
  have h2 := key_item hy
  rw [← h] at h2
  have e := im_law.inj (key_item hx) h2
  unfold imv at e
  injection e with e
  injection e with e
  obtain ⟨x1, x2, x3⟩ := x
  obtain ⟨y1, y2, y3⟩ := y
  simp at e
  rw [show x1 = y1 by omega, show x2 = y2 by omega, show x3 = y3 by omega]
/-- The map at block b has just these items. -/
def IMap (w : World) (b : Nat) (l : List Ch.Im) : Prop := MapS 42 imKey imOk w b l

/-! ### What ended, as keys -/
set_option maxRecDepth 100000 in
theorem en_row : (103 : TypeId) < Try.prog.types.size := of_decide_eq_true (by kernel_rfl)
set_option maxRecDepth 100000 in
theorem en_wide : (match Try.prog.underlying 103 with | some (.array _ _) | some (.struct _) => true | _ => false) = true := by rw [Try.underlying103]
set_option maxRecDepth 100000 in
theorem en_law : Keyed Try.prog 103 := Keyed.of_law (deep_law_laid ch_laid (m := 2) (by omega) en_row (by kernel_rfl) en_wide)
set_option maxRecDepth 100000 in
theorem en_cells : Try.prog.cellsOf 103 = 2 := by kernel_rfl
set_option maxRecDepth 100000 in
theorem en_keyType : Try.prog.keyType 103 = true := by kernel_rfl
def env (x : Int × Nat) : Value := .agg #[.int .i64 x.1, .int .i64 (x.2 : Int)]
def enKey (x : Int × Nat) : Lit := .string (keyBytes [.int .i64 x.1, .int .i64 (x.2 : Int)])
def enOk (x : Int × Nat) : Prop := 0 ≤ x.1 ∧ x.1 < 1000000 ∧ x.2 < 1000000
set_option maxRecDepth 100000 in
theorem key_ended {x : Int × Nat} (h : enOk x) : keyOf Try.prog 103 (env x) = some (enKey x) := by
  obtain ⟨m, hm⟩ : ∃ m, Try.prog.types.size = m + 1 := ⟨Try.prog.types.size - 1, by
    have : 0 < Try.prog.types.size := of_decide_eq_true (by kernel_rfl)
    omega⟩
  have w1 := wf_ch h.1 h.2.1
  have w2 := wf_ch (n := (x.2 : Int)) (by omega) (by have := h.2.2; omega)
  unfold keyOf env
  simp only [Try.underlying103]
  rw [if_pos (by simp [en_keyType, Value.formed, Try.underlying103, en_cells]), hm]
  unfold Program.keyLits
  simp only [Try.underlying103, Value.cells]
  simp [en_cells, im_int, Program.keyLits, Try.underlying3, w1, w2, enKey]
set_option maxRecDepth 100000 in
theorem enKey_inj {x y : Int × Nat} (hx : enOk x) (hy : enOk y) (h : enKey x = enKey y) : x = y := by
  have h2 := key_ended hy
  rw [← h] at h2
  have e := en_law.inj (key_ended hx) h2
  unfold env at e
  injection e with e
  injection e with e
  obtain ⟨x1, x2⟩ := x
  obtain ⟨y1, y2⟩ := y
  simp at e
  rw [show x1 = y1 by omega, show x2 = y2 by omega]
def EMap (w : World) (b : Nat) (l : List (Int × Nat)) : Prop := MapS 103 enKey enOk w b l

set_option maxRecDepth 100000 in
set_option maxHeartbeats 1000000 in
theorem iput_any (b : Nat) (l : List Ch.Im) (x : Ch.Im) (w : World) (h : IMap w b l) (hx : imOk x) (hl : l.length < 1000000) :
    Calls Try.prog 77 #[.map (some b), .agg #[.int .i64 (x.prod : Int), .int .i64 (x.dot : Int), .int .i64 (x.frm : Int)]] w fun e w' => e = .returned (.bool (newB l x)) ∧ IMap w' b (Kn.add l x) ∧ Fr (fun k => k = b) w w' := by
  have HK := Lib.hid (key_item hx)
  have H1 : Hid (IMap (w.alloc (.cells #[.int .i64 (x.prod : Int), .int .i64 (x.dot : Int), .int .i64 (x.frm : Int)] 42)) b l) := MapS.bl h ((Bl.refl w).alloc _)
  have HF : Hid (Fr (fun k => k = b) w (w.alloc (.cells #[.int .i64 (x.prod : Int), .int .i64 (x.dot : Int), .int .i64 (x.frm : Int)] 42))) := (Fr.refl _ w).alloc _
  have HB := Lib.hid (Bk.new w 42 #[.int .i64 (x.prod : Int), .int .i64 (x.dot : Int), .int .i64 (x.frm : Int)])
  have hml : l.length < maxLen := by simp only [maxLen]; omega
  clear h
  by_cases hm : x ∈ l
  · have HM := Lib.hid hm
    have HQ : Hid (newB l x = false) := newB_no hm
    have HA : Hid (Kn.add l x = l) := by show Kn.add l x = l; unfold Kn.add; rw [if_pos hm]
    clear hm
    go_enter Try.func77, Try.ntmps77
    go_wp2_with (at_lookup; refine wpList_lookS_yes rfl (.tmp 5) (.tmp 6) 81 rfl H1.out im_law Try.underlying81 x hx HM.out rfl HK.out ?_)
    go_ret
    exact ⟨by rw [HQ.out]; rfl, by rw [HA.out]; exact H1.out, HF.out⟩
  · skip
    have HM := Lib.hid hm
    have HQ : Hid (newB l x = true) := newB_yes hm
    have HA : Hid (Kn.add l x = l ++ [x]) := by show Kn.add l x = l ++ [x]; unfold Kn.add; rw [if_neg hm]
    clear hm
    go_enter Try.func77, Try.ntmps77
    go_wp2_with (first
      | (at_lookup; refine wpList_lookS_no rfl (.tmp 5) (.tmp 6) 81 rfl H1.out im_law Try.underlying81 x hx HM.out rfl HK.out ?_)
      | (at_mapUpdate; refine wpList_storeS rfl (.tmp 8) (.tmp 9) (.const (.bool true)) 81 rfl H1.out im_law Try.underlying81 hml x hx HM.out rfl HK.out rfl (fun z hz e => imKey_inj hz hx e) trivial ?_; intro w5 hk5 hg5; have HK5 := Lib.hid hk5; have HF5 := Lib.hid (HF.out.grown hg5 (fun k hk _ => by injection hk with hk; exact hk.symm)); clear hk5 hg5))
    go_ret
    exact ⟨by rw [HQ.out]; rfl, by rw [HA.out]; exact HK5.out, HF5.out⟩
set_option maxRecDepth 100000 in
set_option maxHeartbeats 1000000 in
theorem eput_any (b : Nat) (l : List (Int × Nat)) (x1 : Int) (x2 : Nat) (w : World) (h : EMap w b l) (hx : enOk (x1, x2)) (hl : l.length < 1000000) :
    Calls Try.prog 78 #[.map (some b), .agg #[.int .i64 x1, .int .i64 (x2 : Int)]] w fun e w' => e = .returned (.bool (newB l (x1, x2))) ∧ EMap w' b (Kn.add l (x1, x2)) ∧ Fr (fun k => k = b) w w' := by
  have HK := Lib.hid (key_ended hx)
  have H1 : Hid (EMap (w.alloc (.cells #[.int .i64 x1, .int .i64 (x2 : Int)] 103)) b l) := MapS.bl h ((Bl.refl w).alloc _)
  have HF : Hid (Fr (fun k => k = b) w (w.alloc (.cells #[.int .i64 x1, .int .i64 (x2 : Int)] 103))) := (Fr.refl _ w).alloc _
  have HB := Lib.hid (Bk.new w 103 #[.int .i64 x1, .int .i64 (x2 : Int)])
  have hml : l.length < maxLen := by simp only [maxLen]; omega
  clear h
  by_cases hm : (x1, x2) ∈ l
  · have HM := Lib.hid hm
    have HQ : Hid (newB l (x1, x2) = false) := newB_no hm
    have HA : Hid (Kn.add l (x1, x2) = l) := by show Kn.add l (x1, x2) = l; unfold Kn.add; rw [if_pos hm]
    clear hm
    go_enter Try.func78, Try.ntmps78
    go_wp2_with (at_lookup; refine wpList_lookS_yes rfl (.tmp 5) (.tmp 6) 83 rfl H1.out en_law Try.underlying83 (x1, x2) hx HM.out rfl HK.out ?_)
    go_ret
    exact ⟨by rw [HQ.out]; rfl, by rw [HA.out]; exact H1.out, HF.out⟩
  · skip
    have HM := Lib.hid hm
    have HQ : Hid (newB l (x1, x2) = true) := newB_yes hm
    have HA : Hid (Kn.add l (x1, x2) = l ++ [(x1, x2)]) := by show Kn.add l (x1, x2) = l ++ [(x1, x2)]; unfold Kn.add; rw [if_neg hm]
    clear hm
    go_enter Try.func78, Try.ntmps78
    go_wp2_with (first
      | (at_lookup; refine wpList_lookS_no rfl (.tmp 5) (.tmp 6) 83 rfl H1.out en_law Try.underlying83 (x1, x2) hx HM.out rfl HK.out ?_)
      | (at_mapUpdate; refine wpList_storeS rfl (.tmp 8) (.tmp 9) (.const (.bool true)) 83 rfl H1.out en_law Try.underlying83 hml (x1, x2) hx HM.out rfl HK.out rfl (fun z hz e => enKey_inj hz hx e) trivial ?_; intro w5 hk5 hg5; have HK5 := Lib.hid hk5; have HF5 := Lib.hid (HF.out.grown hg5 (fun k hk _ => by injection hk with hk; exact hk.symm)); clear hk5 hg5))
    go_ret
    exact ⟨by rw [HQ.out]; rfl, by rw [HA.out]; exact HK5.out, HF5.out⟩
end Go.Proofs.Ytckckejgocbkkaa
/- A filling in memory: its maps, its rows of items, and what turns of it where something is put in. -/
namespace Go.Proofs.Ytckckejgocbkkaa
open Go.RowKit
open Ch (St)

/-- The first N cells of block g are V's. -/
def Wv (t : TypeId) (w : World) (g N : Nat) (V : Nat → Value) : Prop := ∃ cs : Array Value, Bk w g t cs ∧ N ≤ cs.size ∧ ∀ i, i < N → cs[i]? = some (V i)
section
variable {t : TypeId} {w w' : World} {g N : Nat} {V : Nat → Value}
theorem Wv.lt (h : Wv t w g N V) : g < w.heap.size := by obtain ⟨cs, h1, _⟩ := h; exact h1.lt
theorem Wv.cell (h : Wv t w g N V) {i : Nat} (hi : i < N) : w.cell? ⟨g, i, none⟩ = some (V i) := by
  obtain ⟨cs, h1, _, h3⟩ := h
  rw [h1.cell, h3 i hi]
theorem Wv.free (h : Wv t w g N V) (i : Nat) : w.frozen? ⟨g, i, none⟩ = false := by obtain ⟨cs, h1, _⟩ := h; exact h1.free i
theorem Wv.bl (h : Wv t w g N V) (hb : Bl w w') : Wv t w' g N V := by obtain ⟨cs, h1, h2⟩ := h; exact ⟨cs, h1.bl hb, h2⟩
theorem Wv.fr {S : Nat → Prop} (h : Wv t w g N V) (hf : Fr S w w') (hg : ¬ S g) : Wv t w' g N V := by obtain ⟨cs, h1, h2⟩ := h; exact ⟨cs, h1.fr hf hg, h2⟩
theorem Wv.put (h : Wv t w g N V) {i : Nat} (hi : i < N) (v : Value) : Wv t (w.setCell ⟨g, i, none⟩ v) g N (Ch.upd V i v) := by
  obtain ⟨cs, h1, h2, h3⟩ := h
  refine ⟨_, h1.put i v, by rw [Array.size_setIfInBounds]; exact h2, fun j hj => ?_⟩
  by_cases e : j = i
  · subst e
    rw [Ch.upd_same, Array.getElem?_setIfInBounds_self_of_lt (by omega)]
  · rw [Ch.upd_other _ _ e, Array.getElem?_setIfInBounds_ne (Ne.symm e)]
    exact h3 j hj
theorem Wv.far (h : Wv t w g N V) {p : Addr} (hp : g ≠ p.block) (u : Value) : Wv t (w.setCell p u) g N V := by obtain ⟨cs, h1, h2⟩ := h; exact ⟨cs, h1.far hp u, h2⟩
end
theorem imc_len (x : Ch.Im) : (imc x).length = 3 := rfl
theorem imc_one (x : Ch.Im) : ∀ u ∈ imc x, u.oneCell' = true := by
  intro u hu
  simp [imc] at hu
  rcases hu with rfl | rfl | rfl <;> rfl
def imRow (l : List Ch.Im) : List Value := rowN imc l
theorem imRow_len (l : List Ch.Im) : (imRow l).length = l.length * 3 := rowN_len imc_len l
theorem imRow_snoc (l : List Ch.Im) (x : Ch.Im) : imRow (l ++ [x]) = imRow l ++ imc x := rowN_snoc l x
theorem imRow_append (l m : List Ch.Im) : imRow (l ++ m) = imRow l ++ imRow m := rowN_append l m
theorem imRow_one (l : List Ch.Im) : ∀ u ∈ imRow l, u.oneCell' = true := rowN_one imc_one l
theorem imRow_at (l : List Ch.Im) {i : Nat} (h : i < l.length) : (imRow l)[i * 3]? = some (.int .i64 (l[i].prod : Int)) ∧ (imRow l)[i * 3 + 1]? = some (.int .i64 (l[i].dot : Int)) ∧ (imRow l)[i * 3 + 2]? = some (.int .i64 (l[i].frm : Int)) :=
  ⟨(rowN_at imc_len l i 0 h (by decide)).trans rfl, (rowN_at imc_len l i 1 h (by decide)).trans rfl, (rowN_at imc_len l i 2 h (by decide)).trans rfl⟩
theorem Rd.item {w : World} {B : Nat} {A : Option Addr} {l : List Ch.Im} (h : Rd w B A (imRow l)) {i : Nat} (hi : i < l.length) : ∃ b off, A = some ⟨b, off, none⟩ ∧ b < B ∧ w.cell? ⟨b, off + i * 3, none⟩ = some (.int .i64 (l[i].prod : Int)) ∧
    w.cell? ⟨b, off + i * 3 + 1, none⟩ = some (.int .i64 (l[i].dot : Int)) ∧ w.cell? ⟨b, off + i * 3 + 2, none⟩ = some (.int .i64 (l[i].frm : Int)) := by
  obtain ⟨b, off, e, hb, hc⟩ := h (by rw [imRow_len]; omega)
  obtain ⟨h0, h1, h2⟩ := imRow_at l hi
  exact ⟨b, off, e, hb, hc _ _ h0, hc _ _ h1, hc _ _ h2⟩
/-- What the call owns reads. -/
theorem rd_ownN {w : World} {base n c size : Nat} {A : Option Addr} {e : TypeId} {xs : List Value} (h : w.ownsRow base e size (.slice A n c) n xs) : Rd w w.heap.size A xs := by
  rcases h.2 with ⟨hv, rfl⟩ | ⟨g, cap, cur, hv, _, hg, _, _, _, _⟩
  · have : xs = [] := List.eq_nil_of_length_eq_zero (by simpa using h.1)
    subst this; exact Rd.nil
  · have hA : A = some ⟨g, 0, none⟩ := by injection hv
    subst hA
    intro _
    have hlt : g < w.heap.size := (h.lt g rfl).2
    refine ⟨g, 0, rfl, hlt, fun j u hu => ?_⟩
    have := h.cells (g := g) rfl j u hu
    rw [Addr.add_lit] at this
    exact this

/-- append of one item onto a row of the call's own: at its place, or in a new block; then nothing that was there turns. -/
theorem run_append_keep {P : Program} (w : World) (base : Nat) (t ty e : TypeId) (i : TypeInfo) (z : Value) (size bytes : Nat) (ht : P.underlying t = some (.slice e)) (hi : P.info? e = some i) (hz : i.zero = some z)
    (hsize : i.size = size) (hby : i.bytes = bytes) (hzs : z.cells.size = size) (hsz : 0 < size)
    (v : Value) (n : Nat) (xs : List Value) (hown : w.ownsRow base e size v n xs)
    (ad : Addr) (c : Nat) (news : List Value) (hl : news.length = 1 * size) (hnews : ∀ j u, news[j]? = some u → w.cell? (ad.add j) = some u) (h1 : ∀ u ∈ news, u.oneCell' = true)
    (h63 : n + 1 ≤ maxLen) (hbytes : (n + 1) * bytes ≤ 140737488355328) (hbase : base ≤ w.heap.size) :
    ∃ v' w', (Builtin.append_ #[t, t] ty #[v, .slice (some ad) 1 c]).run P w = .ok v' w' ∧ w'.ownsRow base e size v' (n + 1) (xs ++ news) ∧ w.grownBy w' v.ownBlock ∧
      ((v'.ownBlock = v.ownBlock ∧ v.ownBlock ≠ none) ∨ (w.grownBy w' none ∧ ∀ k, v'.ownBlock = some k → w.heap.size ≤ k)) := by
  have low : ∀ {v' : Value} {w' : World}, w'.ownsRow w.heap.size e size v' (n + 1) (xs ++ news) → w'.ownsRow base e size v' (n + 1) (xs ++ news) ∧ ∀ k, v'.ownBlock = some k → w.heap.size ≤ k := fun h =>
    ⟨own_base h fun k hk => Nat.le_trans hbase (h.lt k hk).1, fun k hk => (h.lt k hk).1⟩
  rcases hown.2 with ⟨rfl, rfl⟩ | ⟨g, cap, cur, rfl, hbg, hg, hnc, hcm, hcs, htake⟩
  · have hx : xs = [] := List.eq_nil_of_length_eq_zero (by simpa using hown.1)
    subst hx
    obtain ⟨v', w', hr, h2, h3, _⟩ := run_append_own (P := P) w w.heap.size t ty e i z size bytes ht hi hz hsize hby hzs hsz (.slice none 0 0) 0 [] (World.ownsRow_nil _ _ _ _) ad 1 c news hl hnews h1 h63 hbytes (Nat.le_refl _)
    exact ⟨v', w', hr, (low h2).1, h3, .inr ⟨h3, (low h2).2⟩⟩
  · by_cases hroom : n + 1 ≤ cap
    · obtain ⟨w', hr, h2, h3⟩ := run_append_own_spare (P := P) w base t ty e i size ht hi hsize g n cap xs hown ad 1 c news hl hnews h1 hroom
      exact ⟨_, w', hr, h2, h3, .inl ⟨rfl, by simp [Value.ownBlock]⟩⟩
    · obtain ⟨v', w', hr, h2, h3⟩ := run_append_arg_grows (P := P) w t ty e i z size bytes ht hi hz hsize hby hzs hsz ⟨g, 0, none⟩ n cap xs hown.1 (hown.cells (g := g) rfl) ad 1 c news hl hnews (by omega) h63 hbytes
      exact ⟨v', w', hr, (low h2).1, ⟨h3.os, h3.tape, h3.output, h3.size, fun k hk _ => h3.block k hk (by simp)⟩, .inr ⟨h3, (low h2).2⟩⟩
theorem step_append_keep {P : Program} {w : World} {ops : Array Oper} {o : Oper} {a : Act} {K : Act → World → Prop} {Q : Exit → Act → World → Prop} {E : Prop} (hgd : o.guard = none) (s x : Operand) (t : TypeId)
    (ho : o.op = .call { callee := .builtin .append, args := #[s, x], argTypes := #[t, t] })
    (base : Nat) (e : TypeId) (i : TypeInfo) (z : Value) (size bytes : Nat) (ht : P.underlying t = some (.slice e)) (hi : P.info? e = some i) (hz : i.zero = some z)
    (hsize : i.size = size) (hby : i.bytes = bytes) (hzs : z.cells.size = size) (hpos : 0 < size)
    (v : Value) (n : Nat) (xs : List Value) (hs : a.eval s = v) (hown : w.ownsRow base e size v n xs)
    (ad : Addr) (c : Nat) (news : List Value) (hx : a.eval x = .slice (some ad) 1 c) (hl : news.length = 1 * size) (hnews : ∀ j u, news[j]? = some u → w.cell? (ad.add j) = some u) (h1 : ∀ u ∈ news, u.oneCell' = true)
    (h63 : n + 1 ≤ maxLen) (hbytes : (n + 1) * bytes ≤ 140737488355328) (hbase : base ≤ w.heap.size)
    (h : ∀ v' w', w'.ownsRow base e size v' (n + 1) (xs ++ news) → w.grownBy w' v.ownBlock → ((v'.ownBlock = v.ownBlock ∧ v.ownBlock ≠ none) ∨ (w.grownBy w' none ∧ ∀ k, v'.ownBlock = some k → w.heap.size ≤ k)) → K (a.put o.dst v') w') :
    if Region.wanted o (yielded ops a.tmps) = true then Oper.wp P o a w K Q else E := by
  have hw : Region.wanted o (yielded ops a.tmps) = true := by simp [Region.wanted, hgd]
  rw [if_pos hw]
  obtain ⟨v', w', hrun, h2, h3, h4⟩ := run_append_keep (P := P) w base t o.type e i z size bytes ht hi hz hsize hby hzs hpos v n xs hown ad c news hl hnews h1 h63 hbytes hbase
  unfold Oper.wp execOp
  simp only [ho, resolve, invoke, builtin, Sem.run_bind, Sem.run_pure, Result.andThen_ok, List.map_toArray, List.map_cons, List.map_nil, hs, hx, hrun]
  exact h v' w' h2 h3 h4

theorem wpList_append_keep {P : Program} (w : World) {ops : Array Oper} {rest : List Oper} {o : Oper} {a : Act} {Q : Exit → Act → World → Prop} (hgd : o.guard = none) (s x : Operand) (t : TypeId)
    (ho : o.op = .call { callee := .builtin .append, args := #[s, x], argTypes := #[t, t] })
    (base : Nat) (e : TypeId) (i : TypeInfo) (z : Value) (size bytes : Nat) (ht : P.underlying t = some (.slice e)) (hi : P.info? e = some i) (hz : i.zero = some z)
    (hsize : i.size = size) (hby : i.bytes = bytes) (hzs : z.cells.size = size) (hpos : 0 < size)
    (v : Value) (n : Nat) (xs : List Value) (hs : a.eval s = v) (hown : w.ownsRow base e size v n xs)
    (ad : Addr) (c : Nat) (news : List Value) (hx : a.eval x = .slice (some ad) 1 c) (hl : news.length = 1 * size) (hnews : ∀ j u, news[j]? = some u → w.cell? (ad.add j) = some u) (h1 : ∀ u ∈ news, u.oneCell' = true)
    (h63 : n + 1 ≤ maxLen) (hbytes : (n + 1) * bytes ≤ 140737488355328) (hbase : base ≤ w.heap.size)
    (h : ∀ v' w', w'.ownsRow base e size v' (n + 1) (xs ++ news) → w.grownBy w' v.ownBlock → ((v'.ownBlock = v.ownBlock ∧ v.ownBlock ≠ none) ∨ (w.grownBy w' none ∧ ∀ k, v'.ownBlock = some k → w.heap.size ≤ k)) → wpList P ops Q rest (a.put o.dst v') w') : wpList P ops Q (o :: rest) a w :=
  wpList_plain hgd fun _ hK => by
    obtain ⟨v', w', hrun, h2, h3, h4⟩ := run_append_keep (P := P) w base t o.type e i z size bytes ht hi hz hsize hby hzs hpos v n xs hown ad c news hl hnews h1 h63 hbytes hbase
    unfold Oper.wp execOp
    simp only [ho, resolve, invoke, builtin, Sem.run_bind, Sem.run_pure, Result.andThen_ok, List.map_toArray, List.map_cons, List.map_nil, hs, hx, hrun]
    exact hK _ _ (h v' w' h2 h3 h4)

/-- Where a filling lies: its block; the rows of maps and of sets; the maps; the sets' slices. -/
structure Fl where
  f : Nat
  hb : Nat
  ch : Nat
  eb : Nat
  ce : Nat
  tb : Nat
  hs : Nat → Nat
  es : Nat → Nat
  vs : Nat → Value
/-- What may turn where something is put in at place a; at any of m places. -/
def Fl.at_ (F : Fl) (a k : Nat) : Prop := k = F.tb ∨ k = F.hs a ∨ k = F.es a ∨ (F.vs a).ownBlock = some k
def Fl.own (F : Fl) (m k : Nat) : Prop := ∃ a, a < m ∧ F.at_ a k
/-- What a filling is of: the grammar's and the word's values. -/
structure Fg where
  t : Int
  n : Int
  s : Int
  A : Option Addr
  len : Nat
  c : Nat
  Aw : Option Addr
  lw : Nat
  cw : Nat
def fcells (G : Fg) (F : Fl) (m : Nat) : Array Value := #[.int .i64 G.t, .int .i64 G.n, .int .i64 G.s, .slice G.A G.len G.c, .slice G.Aw G.lw G.cw, .slice (some ⟨F.hb, 0, none⟩) m F.ch, .slice (some ⟨F.eb, 0, none⟩) m F.ce, .slice (some ⟨F.tb, 0, none⟩) m m]
structure Fil (G : Fg) (base m : Nat) (F : Fl) (f : St) (w : World) : Prop where
  fb : Bk w F.f 59 (fcells G F m)
  hrow : Wv 81 w F.hb m (fun i => .map (some (F.hs i)))
  erow : Wv 83 w F.eb m (fun i => .map (some (F.es i)))
  trow : Wv 26 w F.tb m F.vs
  rows : ∀ i, i < m → w.ownsRow base 42 3 (F.vs i) (f.S i).length (imRow (f.S i))
  apart : ∀ i j, i < m → j < m → i ≠ j → ∀ k, (F.vs i).ownBlock = some k → (F.vs j).ownBlock ≠ some k
  hmap : ∀ i, i < m → IMap w (F.hs i) (f.S i)
  emap : ∀ i, i < m → EMap w (F.es i) (f.E i)
  hinj : ∀ i j, i < m → j < m → F.hs i = F.hs j → i = j
  einj : ∀ i j, i < m → j < m → F.es i = F.es j → i = j
  hne : ∀ i j, i < m → j < m → F.hs i ≠ F.es j
  low : base ≤ F.f ∧ base ≤ F.hb ∧ base ≤ F.eb ∧ base ≤ F.tb
  lowm : ∀ i, i < m → base ≤ F.hs i ∧ base ≤ F.es i
section
variable {G : Fg} {base m : Nat} {F : Fl} {f : St} {w w' : World}
theorem Fil.fr {S : Nat → Prop} (h : Fil G base m F f w) (hf : Fr S w w') (h0 : ¬ S F.f) (h1 : ¬ S F.hb) (h2 : ¬ S F.eb) (h3 : ¬ S F.tb) (h4 : ∀ i, i < m → ¬ S (F.hs i) ∧ ¬ S (F.es i)) (h5 : ∀ i k, i < m → (F.vs i).ownBlock = some k → ¬ S k) : Fil G base m F f w' :=
  { h with
    fb := h.fb.fr hf h0
    hrow := h.hrow.fr hf h1
    erow := h.erow.fr hf h2
    trow := h.trow.fr hf h3
    rows := fun i hi => own_fr (h.rows i hi) hf fun k hk => h5 i k hi hk
    hmap := fun i hi => MapS.fr (h.hmap i hi) hf (h4 i hi).1
    emap := fun i hi => MapS.fr (h.emap i hi) hf (h4 i hi).2 }
theorem Fil.bl (h : Fil G base m F f w) (hb : Bl w w') : Fil G base m F f w' :=
  h.fr (S := fun _ => False) (Fr.of_bl hb) (fun h => h) (fun h => h) (fun h => h) (fun h => h) (fun _ _ => ⟨fun h => h, fun h => h⟩) (fun _ _ _ _ h => h)
theorem Fil.lt (h : Fil G base m F f w) {k : Nat} (hk : F.own m k) : base ≤ k ∧ k < w.heap.size := by
  obtain ⟨a, ha, h1 | h1 | h1 | h1⟩ := hk
  · subst h1; exact ⟨h.low.2.2.2, h.trow.lt⟩
  · subst h1; exact ⟨(h.lowm a ha).1, MapS.lt (h.hmap a ha)⟩
  · subst h1; exact ⟨(h.lowm a ha).2, MapS.lt (h.emap a ha)⟩
  · exact (h.rows a ha).lt k h1
/-- A block of another type is none of those that turn. -/
theorem Fil.notown (h : Fil G base m F f w) {b : Nat} {t : TypeId} {cs : Array Value} (hb : Bk w b t cs) (h1 : t ≠ 26) (h2 : t ≠ 42) : ¬ F.own m b := by
  rintro ⟨a, ha, h3 | h3 | h3 | h3⟩
  · subst h3
    obtain ⟨c, h4, _⟩ := h.trow
    exact hb.apart h4 h1 rfl
  · subst h3; exact MapS.apart (h.hmap a ha) hb rfl
  · subst h3; exact MapS.apart (h.emap a ha) hb rfl
  · exact (hb.row (h.rows a ha) (Ne.symm h2)) h3
theorem Fil.notw {t : TypeId} {N : Nat} {V : Nat → Value} (h : Fil G base m F f w) {b : Nat} (hb : Wv t w b N V) (h1 : t ≠ 26) (h2 : t ≠ 42) : ¬ F.own m b := by
  obtain ⟨c, h3, _⟩ := hb
  exact h.notown h3 h1 h2
end
/-- What turns where things are put in: nothing but what is the filling's; a new block of a set's is new. -/
structure Tr (m : Nat) (F : Fl) (vs' : Nat → Value) (w w' : World) : Prop where
  fr : Fr (F.own m) w w'
  blk : ∀ i k, i < m → (vs' i).ownBlock = some k → (F.vs i).ownBlock = some k ∨ w.heap.size ≤ k
def Fl.to (F : Fl) (vs' : Nat → Value) : Fl := { F with vs := vs' }
theorem Fl.to_to (F : Fl) (v v' : Nat → Value) : (F.to v).to v' = F.to v' := rfl
theorem Fl.to_self (F : Fl) : F.to F.vs = F := rfl
section
variable {m : Nat} {F : Fl} {vs1 vs2 : Nat → Value} {w w1 w2 : World}
theorem Tr.own (h : Tr m F vs1 w w1) {k : Nat} (hk : (F.to vs1).own m k) : F.own m k ∨ w.heap.size ≤ k := by
  obtain ⟨a, ha, h1 | h1 | h1 | h1⟩ := hk
  · exact .inl ⟨a, ha, .inl h1⟩
  · exact .inl ⟨a, ha, .inr (.inl h1)⟩
  · exact .inl ⟨a, ha, .inr (.inr (.inl h1))⟩
  · rcases h.blk a k ha h1 with h2 | h2
    · exact .inl ⟨a, ha, .inr (.inr (.inr h2))⟩
    · exact .inr h2
theorem Tr.refl (m : Nat) (F : Fl) (w : World) : Tr m F F.vs w w := ⟨Fr.refl _ _, fun _ _ _ h => .inl h⟩
theorem Tr.trans (h : Tr m F vs1 w w1) (k : Tr m (F.to vs1) vs2 w1 w2) : Tr m F vs2 w w2 where
  fr := h.fr.trans k.fr fun i hi hT => by
    rcases h.own hT with h1 | h1
    · exact h1
    · omega
  blk i j hi hj := by
    rcases k.blk i j hi hj with h1 | h1
    · exact h.blk i j hi h1
    · have := h.fr.size; exact .inr (by omega)
theorem Tr.after (h : Tr m F vs1 w w1) (hb : Bl w1 w2) : Tr m F vs1 w w2 := ⟨h.fr.after hb, h.blk⟩
theorem Tr.ahead (hb : Bl w w1) (h : Tr m F vs1 w1 w2) : Tr m F vs1 w w2 :=
  ⟨(Fr.of_bl (S := F.own m) hb).same h.fr, fun i k hi hk => (h.blk i k hi hk).imp id fun h1 => Nat.le_trans hb.size h1⟩
theorem Tr.box (h : Tr m F vs1 w w1) {b : Nat} {t : TypeId} {cs : Array Value} (hb : Bk w b t cs) (hn : ¬ F.own m b) : Bk w1 b t cs ∧ ¬ (F.to vs1).own m b :=
  ⟨hb.fr h.fr hn, fun h1 => (h.own h1).elim hn fun h2 => by have := hb.lt; omega⟩
end
section
variable {G : Fg} {base m : Nat} {F : Fl} {f : St} {w w' : World} {vs1 : Nat → Value}
theorem Tr.under {w0 : World} (h : Tr m F vs1 w w') (hF : Fil G base m F f w) (hb : Below base w0 w) : Below base w0 w' where
  os := h.fr.os.trans hb.os
  tape := h.fr.tape.trans hb.tape
  output := h.fr.output.trans hb.output
  size := Nat.le_trans hb.size h.fr.size
  block k hk := by
    have := hF.low.1
    have h2 := hF.fb.lt
    exact (h.fr.block k (by omega) fun h1 => by have := (hF.lt h1).1; omega).trans (hb.block k hk)
end
end Go.Proofs.Ytckckejgocbkkaa
