/- Plain facts on sets of terminals: with what words begin, and what follows. No program is named here. -/
import Derived.Test.YtgmnokmchjeflaaKMath
namespace Go.Proofs.Ytgmnokmchjeflaa.Fi
open Gr (Sy Pr Gm okSy okPr Ok)
open Cf (Cm)

/-- A step puts one thing in, if what there is says so. -/
abbrev St := Nat × ((Nat → Bool) → Bool)
def put (c : Nat → Bool) (m : Nat) (v : Bool) : Nat → Bool := fun n => c n || (decide (n = m) && v)
def run (L : List St) (c : Nat → Bool) : Nat → Bool := L.foldl (fun c s => put c s.1 (s.2 c)) c
theorem run_nil (c : Nat → Bool) : run [] c = c := rfl
theorem run_cons (s : St) (L : List St) (c : Nat → Bool) : run (s :: L) c = run L (put c s.1 (s.2 c)) := rfl
theorem run_append (L M : List St) (c : Nat → Bool) : run (L ++ M) c = run M (run L c) := List.foldl_append ..
/-- All that is there among the first N is there, too. -/
def Le (N : Nat) (c d : Nat → Bool) : Prop := ∀ n, n < N → c n = true → d n = true
/-- Steps that hang on the first N alone, and say no less of more. -/
def Mono (N : Nat) (L : List St) : Prop := ∀ s ∈ L, s.1 < N ∧ ∀ c d, Le N c d → s.2 c = true → s.2 d = true
/-- Nothing is to be put in. -/
def Shut (L : List St) (c : Nat → Bool) : Prop := ∀ s ∈ L, s.2 c = true → c s.1 = true

theorem put_grow {c : Nat → Bool} {m n : Nat} {v : Bool} (h : c n = true) : put c m v n = true := by unfold put; rw [h]; rfl
theorem put_here {c : Nat → Bool} {m : Nat} {v : Bool} (h : v = true) : put c m v m = true := by unfold put; rw [h]; simp
theorem put_inv {c : Nat → Bool} {m n : Nat} {v : Bool} (h : put c m v n = true) : c n = true ∨ (n = m ∧ v = true) := by
  unfold put at h
  rcases Bool.or_eq_true_iff.mp h with h | h
  · exact .inl h
  · rw [Bool.and_eq_true, decide_eq_true_eq] at h; exact .inr h
theorem run_grow {n : Nat} : ∀ (L : List St) {c : Nat → Bool}, c n = true → run L c n = true
  | [], _, h => h
  | s :: L, c, h => by rw [run_cons]; exact run_grow L (put_grow h)
theorem run_step {N : Nat} : ∀ {L : List St} {c : Nat → Bool}, Mono N L → ∀ s ∈ L, s.2 c = true → run L c s.1 = true
  | [], _, _, s, hs, _ => absurd hs (by simp)
  | s' :: L, c, hm, s, hs, h => by
    rw [run_cons]
    rcases List.mem_cons.mp hs with rfl | hs2
    · exact run_grow L (put_here h)
    · exact run_step (fun x hx => hm x (List.mem_cons_of_mem _ hx)) s hs2 ((hm s hs).2 _ _ (fun n _ hn => put_grow hn) h)
theorem run_le {N : Nat} : ∀ {L : List St} {c d : Nat → Bool}, Mono N L → Shut L d → Le N c d → Le N (run L c) d
  | [], _, _, _, _, h => h
  | s :: L, c, d, hm, hd, h => by
    rw [run_cons]
    refine run_le (fun x hx => hm x (List.mem_cons_of_mem _ hx)) (fun x hx => hd x (List.mem_cons_of_mem _ hx)) ?_
    intro n hn hp
    rcases put_inv hp with h1 | ⟨h1, h2⟩
    · exact h n hn h1
    · subst h1
      exact hd s (List.mem_cons_self ..) ((hm s (List.mem_cons_self ..)).2 c d h h2)
theorem shut_of {N : Nat} {L : List St} {c : Nat → Bool} (hm : Mono N L) (h : ∀ n, n < N → run L c n = c n) : Shut L c := by
  intro s hs hv
  rw [← h s.1 (hm s hs).1]
  exact run_step hm s hs hv
theorem run_shut {N : Nat} {L : List St} {c : Nat → Bool} (hm : Mono N L) (h : Shut L c) : ∀ n, n < N → run L c n = c n := by
  intro n hn
  cases e : c n with
  | true => exact run_grow L e
  | false =>
    cases e2 : run L c n with
    | false => rfl
    | true => rw [run_le hm h (fun _ _ h => h) n hn e2] at e; exact absurd e (by decide)
theorem shut_same {N : Nat} {L : List St} {c d : Nat → Bool} (hm : Mono N L) (h : ∀ n, n < N → c n = d n) (hc : Shut L c) : Shut L d := by
  intro s hs hv
  rw [← h s.1 (hm s hs).1]
  exact hc s hs ((hm s hs).2 d c (fun n hn e => by rw [h n hn]; exact e) hv)
/-- Over and over. -/
def over (L : List St) (c : Nat → Bool) : Nat → Nat → Bool
  | 0 => c
  | k + 1 => run L (over L c k)
theorem over_le {N : Nat} {L : List St} {c d : Nat → Bool} (hm : Mono N L) (hd : Shut L d) (h : Le N c d) : ∀ k, Le N (over L c k) d
  | 0 => h
  | k + 1 => run_le hm hd (over_le hm hd h k)
theorem over_grow {L : List St} {c : Nat → Bool} {n : Nat} (h : c n = true) : ∀ k, over L c k n = true
  | 0 => h
  | k + 1 => run_grow L (over_grow h k)
theorem over_shut {N : Nat} {L : List St} (hm : Mono N L) (c : Nat → Bool) {k : Nat} (hk : N ≤ k) : Shut L (over L c k) := by
  apply shut_of hm
  apply Rk.settle N 0 (fun k n => over L c k n) (Nat.zero_le _) _ _ k (by omega)
  · intro k n _ h; exact run_grow L h
  · intro k h n hn
    have h1 : Shut L (over L c k) := shut_of hm h
    have h2 : Shut L (over L c (k + 1)) := shut_same hm (fun n hn => (h n hn).symm) h1
    exact run_shut hm h2 n hn
/-- The least that is shut, and has what there was. -/
def Least (N : Nat) (L : List St) (c d : Nat → Bool) : Prop := Shut L d ∧ Le N c d ∧ ∀ x, Shut L x → Le N c x → Le N d x
theorem least_over {N : Nat} {L : List St} (hm : Mono N L) (c : Nat → Bool) {k : Nat} (hk : N ≤ k) : Least N L c (over L c k) :=
  ⟨over_shut hm c hk, fun _ _ h => over_grow h k, fun _ hx h => over_le hm hx h k⟩
theorem least_same {N : Nat} {L : List St} {c d e : Nat → Bool} (hd : Least N L c d) (he : Least N L c e) : ∀ n, n < N → d n = e n := by
  intro n hn
  cases h : d n with
  | true => exact (hd.2.2 e he.1 he.2.1 n hn h).symm
  | false =>
    cases h2 : e n with
    | false => rfl
    | true => rw [he.2.2 d hd.1 hd.2.1 n hn h2] at h; exact absurd h (by decide)

/-- Sets: is this terminal in that nonterminal's? -/
abbrev Tb := Nat → Nat → Bool
/-- Of symbols, by sets, and by who is nullable. -/
def of (F : Tb) (nl : Nat → Bool) : List Sy → Nat → Bool
  | [], _ => false
  | s :: l, t => if s.non then F s.n.toNat t || (nl s.n.toNat && of F nl l t) else decide (s.n = (t : Int))
def allNull (nl : Nat → Bool) (l : List Sy) : Bool := l.all fun s => s.non && nl s.n.toNat
theorem of_mono {F G : Tb} {nl : Nat → Bool} {t N : Nat} (h : ∀ n, n < N → F n t = true → G n t = true) : ∀ {l : List Sy}, (∀ s ∈ l, s.non = true → s.n.toNat < N) → of F nl l t = true → of G nl l t = true
  | [], _, hf => hf
  | s :: l, hl, hf => by
    unfold of at hf ⊢
    cases e : s.non with
    | true =>
      rw [if_pos e] at hf
      rw [if_pos rfl]
      rcases Bool.or_eq_true_iff.mp hf with h1 | h1
      · rw [h _ (hl s (List.mem_cons_self ..) e) h1]; rfl
      · rw [Bool.and_eq_true] at h1
        rw [h1.1, of_mono h (fun x hx => hl x (List.mem_cons_of_mem _ hx)) h1.2]; simp
    | false =>
      rw [if_neg (by rw [e]; decide)] at hf
      rw [if_neg (by decide)]
      exact hf
theorem of_cons (F : Tb) (nl : Nat → Bool) (s : Sy) (l : List Sy) (t : Nat) : of F nl (s :: l) t = if s.non then F s.n.toNat t || (nl s.n.toNat && of F nl l t) else decide (s.n = (t : Int)) := rfl
theorem of_append {F : Tb} {nl : Nat → Bool} {t : Nat} : ∀ {l m : List Sy}, of F nl (l ++ m) t = (of F nl l t || (allNull nl l && of F nl m t))
  | [], m => by simp [of, allNull]
  | s :: l, m => by
    rw [List.cons_append, of_cons, of_cons]
    have ih := of_append (F := F) (nl := nl) (t := t) (l := l) (m := m)
    cases e : s.non with
    | true =>
      rw [if_pos rfl, if_pos rfl, ih]
      have ea : allNull nl (s :: l) = (nl s.n.toNat && allNull nl l) := by unfold allNull; rw [List.all_cons, e, Bool.true_and]
      rw [ea]
      cases F s.n.toNat t <;> cases nl s.n.toNat <;> simp
    | false =>
      rw [if_neg (by decide), if_neg (by decide)]
      have ea : allNull nl (s :: l) = false := by unfold allNull; rw [List.all_cons, e]; rfl
      rw [ea]; simp
theorem allNull_append (nl : Nat → Bool) (l m : List Sy) : allNull nl (l ++ m) = (allNull nl l && allNull nl m) := by unfold allNull; rw [List.all_append]

/-- With what begins what comes of nonterminals: the steps of one terminal. -/
def fSteps (ps : List Pr) (nl : Nat → Bool) (t : Nat) : List St := ps.map fun p => (p.left.toNat, fun c => of (fun n _ => c n) nl p.right t)
theorem of_col (F : Tb) (nl : Nat → Bool) (t : Nat) : ∀ l, of (fun n _ => F n t) nl l t = of F nl l t
  | [] => rfl
  | s :: l => by unfold of; rw [of_col F nl t l]
theorem ok_nums {g : Gm} (hg : Ok g) {p : Pr} (hp : p ∈ g.prods) : p.left.toNat < g.nons.toNat ∧ (∀ s ∈ p.right, s.non = true → s.n.toNat < g.nons.toNat) ∧ ∀ s ∈ p.right, s.non = false → 0 ≤ s.n ∧ s.n < g.terms := by
  have h := hg.2.2.2.2.2.2.2 p hp
  have h0 := h.1
  have h1 := h.2.1
  refine ⟨by omega, ?_, ?_⟩
  · intro s hs hn
    have h2 := h.2.2.2 s hs
    have h3 := h2.2.1 hn
    have h4 := h2.1
    omega
  · intro s hs hn
    have h2 := h.2.2.2 s hs
    exact ⟨h2.1, h2.2.2 hn⟩
theorem fMono {g : Gm} (hg : Ok g) (nl : Nat → Bool) (t : Nat) : Mono g.nons.toNat (fSteps g.prods nl t) := by
  intro s hs
  unfold fSteps at hs
  rw [List.mem_map] at hs
  obtain ⟨p, hp, rfl⟩ := hs
  obtain ⟨h1, h2, _⟩ := ok_nums hg hp
  refine ⟨h1, ?_⟩
  intro c d hcd h
  exact of_mono (F := fun n _ => c n) (G := fun n _ => d n) (t := t) (N := g.nons.toNat) hcd h2 h
/-- The sets are the least: of each terminal. -/
def First (g : Gm) (nl : Nat → Bool) (F : Tb) : Prop := ∀ t, Least g.nons.toNat (fSteps g.prods nl t) (fun _ => false) (fun n => F n t)
theorem first_shut {g : Gm} {nl : Nat → Bool} {F : Tb} (h : First g nl F) {p : Pr} (hp : p ∈ g.prods) {t : Nat} (ho : of F nl p.right t = true) : F p.left.toNat t = true := by
  have := (h t).1 (p.left.toNat, fun c => of (fun n _ => c n) nl p.right t) (by unfold fSteps; exact List.mem_map.mpr ⟨p, hp, rfl⟩)
  exact this (by show of (fun n _ => F n t) nl p.right t = true; rw [of_col]; exact ho)
theorem first_same {g : Gm} {nl : Nat → Bool} {F G : Tb} (hF : First g nl F) (hG : First g nl G) {n : Nat} (hn : n < g.nons.toNat) (t : Nat) : F n t = G n t := least_same (hF t) (hG t) n hn
/-- And just so much as must be is in them. -/
theorem first_from {g : Gm} (hg : Ok g) {nl : Nat → Bool} {F : Tb} (h : First g nl F) {n t : Nat} (hn : n < g.nons.toNat) (hf : F n t = true) : ∃ p ∈ g.prods, p.left.toNat = n ∧ of F nl p.right t = true := by
  have := (h t).2.2 (fun n => decide (∃ p ∈ g.prods, p.left.toNat = n ∧ of F nl p.right t = true)) ?_ (fun _ _ h => Bool.noConfusion h) n hn hf
  · exact of_decide_eq_true this
  · intro s hs hv
    unfold fSteps at hs
    rw [List.mem_map] at hs
    obtain ⟨p, hp, rfl⟩ := hs
    apply decide_eq_true
    refine ⟨p, hp, rfl, ?_⟩
    have hv : of (fun n _ => decide (∃ p ∈ g.prods, p.left.toNat = n ∧ of F nl p.right t = true)) nl p.right t = true := hv
    refine of_mono (F := fun n _ => decide (∃ p ∈ g.prods, p.left.toNat = n ∧ of F nl p.right t = true)) (G := F) (t := t) (N := g.nons.toNat) ?_ (ok_nums hg hp).2.1 hv
    intro m _ hm
    obtain ⟨q, hq, rfl, ho⟩ := of_decide_eq_true hm
    exact first_shut h hq ho
theorem first_term {g : Gm} (hg : Ok g) {nl : Nat → Bool} {F : Tb} (h : First g nl F) {n t : Nat} (hn : n < g.nons.toNat) (hf : F n t = true) : (t : Int) < g.terms := by
  have := (h t).2.2 (fun _ => decide ((t : Int) < g.terms)) ?_ (fun _ _ h => Bool.noConfusion h) n hn hf
  · exact of_decide_eq_true this
  · intro s hs hv
    unfold fSteps at hs
    rw [List.mem_map] at hs
    obtain ⟨p, hp, rfl⟩ := hs
    have hv : of (fun _ _ => decide ((t : Int) < g.terms)) nl p.right t = true := hv
    show decide ((t : Int) < g.terms) = true
    have key : ∀ l : List Sy, (∀ s ∈ l, s.non = false → 0 ≤ s.n ∧ s.n < g.terms) → of (fun _ _ => decide ((t : Int) < g.terms)) nl l t = true → (t : Int) < g.terms := by
      intro l
      induction l with
      | nil => intro _ h; exact absurd h (by simp [of])
      | cons s l ih =>
        intro hl hv
        unfold of at hv
        cases e : s.non with
        | true =>
          rw [if_pos e] at hv
          rcases Bool.or_eq_true_iff.mp hv with h1 | h1
          · exact of_decide_eq_true h1
          · rw [Bool.and_eq_true] at h1
            exact ih (fun x hx => hl x (List.mem_cons_of_mem _ hx)) h1.2
        | false =>
          rw [if_neg (by rw [e]; decide)] at hv
          have := of_decide_eq_true hv
          have := (hl s (List.mem_cons_self ..) e).2
          omega
    exact decide_eq_true (key p.right (ok_nums hg hp).2.2 hv)
/-- Who is nullable. -/
def nulls (g : Gm) (n : Nat) : Bool := decide (Rk.rk (Rk.ranks false g.prods g.nons.toNat) n ≠ 0)
theorem nulls_iff {g : Gm} (hg : Ok g) {n : Nat} : nulls g n = true ↔ Cm g [⟨true, (n : Int)⟩] [] := by
  unfold nulls; rw [decide_eq_true_eq]; exact Rk.null_iff hg n
theorem nulls_shut {g : Gm} (hg : Ok g) {p : Pr} (hp : p ∈ g.prods) (h : allNull (nulls g) p.right = true) : nulls g p.left.toNat = true := by
  unfold nulls
  apply decide_eq_true
  have hk := hg.2.2.2.2.2.2.2 p hp
  have h0 : 0 ≤ p.left := hk.1
  have h1 : p.left < g.nons := hk.2.1
  refine Rk.closed false g.prods g.nons.toNat hp (n := p.left.toNat) (Int.toNat_of_nonneg h0).symm (by omega) ?_
  intro s hs
  have := List.all_eq_true.mp h s hs
  rw [Bool.and_eq_true] at this
  exact ⟨fun _ => of_decide_eq_true this.2, fun e => by rw [e] at this; exact absurd this.1 (by decide)⟩
theorem cm_allNull {g : Gm} (hg : Ok g) {l : List Sy} (h : Cm g l []) : allNull (nulls g) l = true := by
  apply List.all_eq_true.mpr
  intro s hs
  have := Rk.cm_null hg h rfl s hs
  rw [this.1, Bool.true_and]
  exact decide_eq_true this.2
/-- With what a word that comes of symbols begins is in their set. -/
theorem first_means {g : Gm} (hg : Ok g) {F : Tb} (hF : First g (nulls g) F) {l : List Sy} {w : List Int} (h : Cm g l w) : ∀ {t : Nat} {v : List Int}, w = (t : Int) :: v → of F (nulls g) l t = true := by
  induction h with
  | nil => intro t v e; exact absurd e (by simp)
  | @tok s l w hs _ _ =>
    intro t v e
    injection e with e1 _
    unfold of
    rw [if_neg (by rw [hs]; decide)]
    exact decide_eq_true e1
  | @non s l u v p hs hp hl hr _ ih1 ih2 =>
    intro t w e
    unfold of
    rw [if_pos hs]
    cases u with
    | nil =>
      have hn : nulls g s.n.toNat = true := by rw [← hl]; exact nulls_shut hg hp (cm_allNull hg hr)
      rw [hn, ih2 e]; simp
    | cons x u =>
      have ex : x = (t : Int) := by injection e
      rw [← hl, first_shut hF hp (ih1 (by rw [ex]))]; rfl

/-- What follows: the steps of one terminal (or of the end). -/
def wStepsOf (F : Tb) (nl : Nat → Bool) (t : Nat) (left : Nat) : List Sy → List St
  | [] => []
  | s :: l => (if s.non then [(s.n.toNat, fun c => of F nl l t || (allNull nl l && c left))] else []) ++ wStepsOf F nl t left l
def wSteps (ps : List Pr) (F : Tb) (nl : Nat → Bool) (t : Nat) : List St := ps.flatMap fun p => wStepsOf F nl t p.left.toNat p.right
def wBase (start : Nat) (t : Nat) : Nat → Bool := fun n => decide (n = start ∧ t = 16)
theorem wStepsOf_mem {F : Tb} {nl : Nat → Bool} {t left : Nat} : ∀ {r : List Sy} {x : St}, x ∈ wStepsOf F nl t left r ↔ ∃ pre s l, r = pre ++ s :: l ∧ s.non = true ∧ x = (s.n.toNat, fun c => of F nl l t || (allNull nl l && c left))
  | [], x => by
    constructor
    · intro h; exact absurd h (by simp [wStepsOf])
    · rintro ⟨pre, s, l, h, _⟩; exact absurd h (by simp)
  | s :: r, x => by
    unfold wStepsOf
    rw [List.mem_append]
    constructor
    · rintro (h | h)
      · cases e : s.non with
        | true =>
          rw [if_pos e, List.mem_singleton] at h
          exact ⟨[], s, r, rfl, e, h⟩
        | false => rw [if_neg (by rw [e]; decide)] at h; exact absurd h (by simp)
      · obtain ⟨pre, s', l, h1, h2, h3⟩ := wStepsOf_mem.mp h
        exact ⟨s :: pre, s', l, by rw [h1]; rfl, h2, h3⟩
    · rintro ⟨pre, s', l, h1, h2, h3⟩
      cases pre with
      | nil =>
        injection h1 with h4 h5
        subst h4; subst h5
        left
        rw [if_pos h2]
        exact List.mem_singleton.mpr h3
      | cons y pre =>
        injection h1 with h4 h5
        exact .inr (wStepsOf_mem.mpr ⟨pre, s', l, h5, h2, h3⟩)
theorem wMono {g : Gm} (hg : Ok g) (F : Tb) (nl : Nat → Bool) (t : Nat) : Mono g.nons.toNat (wSteps g.prods F nl t) := by
  intro x hx
  unfold wSteps at hx
  rw [List.mem_flatMap] at hx
  obtain ⟨p, hp, hx⟩ := hx
  obtain ⟨pre, s, l, h1, h2, rfl⟩ := wStepsOf_mem.mp hx
  obtain ⟨h3, h4, _⟩ := ok_nums hg hp
  refine ⟨h4 s (by rw [h1]; simp) h2, ?_⟩
  intro c d hcd h
  have h : (of F nl l t || (allNull nl l && c p.left.toNat)) = true := h
  show (of F nl l t || (allNull nl l && d p.left.toNat)) = true
  rcases Bool.or_eq_true_iff.mp h with h | h
  · rw [h]; rfl
  · rw [Bool.and_eq_true] at h
    rw [h.1, hcd _ h3 h.2]; simp
def Follow (g : Gm) (F : Tb) (nl : Nat → Bool) (W : Tb) : Prop := ∀ t, Least g.nons.toNat (wSteps g.prods F nl t) (wBase g.start.toNat t) (fun n => W n t)
theorem follow_shut {g : Gm} {F : Tb} {nl : Nat → Bool} {W : Tb} (h : Follow g F nl W) {p : Pr} (hp : p ∈ g.prods) {pre l : List Sy} {s : Sy} (hr : p.right = pre ++ s :: l) (hs : s.non = true) (t : Nat) :
    (of F nl l t = true → W s.n.toNat t = true) ∧ (allNull nl l = true → W p.left.toNat t = true → W s.n.toNat t = true) := by
  have := (h t).1 (s.n.toNat, fun c => of F nl l t || (allNull nl l && c p.left.toNat)) (by unfold wSteps; exact List.mem_flatMap.mpr ⟨p, hp, wStepsOf_mem.mpr ⟨pre, s, l, hr, hs, rfl⟩⟩)
  constructor
  · intro h1; exact this (by show (of F nl l t || _) = true; rw [h1]; rfl)
  · intro h1 h2; exact this (by show (_ || (allNull nl l && W p.left.toNat t)) = true; rw [h1, h2]; simp)
theorem follow_end {g : Gm} (hg : Ok g) {F : Tb} {nl : Nat → Bool} {W : Tb} (h : Follow g F nl W) : W g.start.toNat 16 = true := by
  have h1 := hg.2.2.2.2.1
  have h2 := hg.2.2.2.2.2.1
  exact (h 16).2.1 g.start.toNat (by omega) (decide_eq_true ⟨rfl, rfl⟩)
theorem follow_same {g : Gm} {F : Tb} {nl : Nat → Bool} {V W : Tb} (hV : Follow g F nl V) (hW : Follow g F nl W) {n : Nat} (hn : n < g.nons.toNat) (t : Nat) : V n t = W n t := least_same (hV t) (hW t) n hn
/-- Nothing but terminals, and the end, follows. -/
theorem of_term {g : Gm} (hg : Ok g) {nl : Nat → Bool} {F : Tb} (hF : First g nl F) {t : Nat} : ∀ {l : List Sy}, (∀ s ∈ l, okSy g s) → of F nl l t = true → (t : Int) < g.terms
  | [], _, h => absurd h (by simp [of])
  | s :: l, hl, h => by
    unfold of at h
    have hs := hl s (List.mem_cons_self ..)
    cases e : s.non with
    | true =>
      rw [if_pos e] at h
      rcases Bool.or_eq_true_iff.mp h with h1 | h1
      · have h2 := hs.2.1 e
        have h3 := hs.1
        exact first_term hg hF (by omega) h1
      · rw [Bool.and_eq_true] at h1
        exact of_term hg hF (fun x hx => hl x (List.mem_cons_of_mem _ hx)) h1.2
    | false =>
      rw [if_neg (by rw [e]; decide)] at h
      have h2 := hs.2.2 e
      have h3 := of_decide_eq_true h
      omega
theorem follow_term {g : Gm} (hg : Ok g) {F : Tb} {nl : Nat → Bool} {W : Tb} (hF : First g nl F) (h : Follow g F nl W) {n t : Nat} (hn : n < g.nons.toNat) (hw : W n t = true) : (t : Int) < g.terms ∨ t = 16 := by
  have := (h t).2.2 (fun _ => decide ((t : Int) < g.terms ∨ t = 16)) ?_ ?_ n hn hw
  · exact of_decide_eq_true this
  · intro x hx hv
    unfold wSteps at hx
    rw [List.mem_flatMap] at hx
    obtain ⟨p, hp, hx⟩ := hx
    obtain ⟨pre, s, l, h1, h2, rfl⟩ := wStepsOf_mem.mp hx
    have hv : (of F nl l t || (allNull nl l && decide ((t : Int) < g.terms ∨ t = 16))) = true := hv
    show decide ((t : Int) < g.terms ∨ t = 16) = true
    rcases Bool.or_eq_true_iff.mp hv with hv | hv
    · exact decide_eq_true (.inl (of_term hg hF (fun x hx => (hg.2.2.2.2.2.2.2 p hp).2.2.2 x (by rw [h1]; simp [hx])) hv))
    · rw [Bool.and_eq_true] at hv; exact hv.2
  · intro m _ hm
    have := of_decide_eq_true hm
    exact decide_eq_true (.inr this.2)

/-- What stands behind each nonterminal in a row of symbols is in its set. -/
def Behind (F : Tb) (nl : Nat → Bool) (W : Tb) (row : List Sy) : Prop :=
  ∀ pre s l, row = pre ++ s :: l → s.non = true → (∀ t, of F nl l t = true → W s.n.toNat t = true) ∧ (allNull nl l = true → W s.n.toNat 16 = true)
theorem behind_start {g : Gm} (hg : Ok g) {F : Tb} {nl : Nat → Bool} {W : Tb} (h : Follow g F nl W) : Behind F nl W [⟨true, g.start⟩] := by
  intro pre s l e hs
  cases pre with
  | nil =>
    injection e with e1 e2
    subst e1; subst e2
    exact ⟨fun t ht => absurd ht (by simp [of]), fun _ => follow_end hg h⟩
  | cons x pre => injection e with _ e2; exact absurd e2 (by simp)
/-- A production in the place of its nonterminal keeps that. -/
theorem behind_turn {g : Gm} (hg : Ok g) {F : Tb} {W : Tb} (hF : First g (nulls g) F) (h : Follow g F (nulls g) W) {p : Pr} (hp : p ∈ g.prods) {a : Sy} (ha : a.non = true) (hn : a.n = p.left) {u v : List Sy}
    (hb : Behind F (nulls g) W (u ++ a :: v)) : Behind F (nulls g) W (u ++ (p.right ++ v)) := by
  have hof : ∀ t, of F (nulls g) (p.right ++ v) t = true → of F (nulls g) (a :: v) t = true := by
    intro t ht
    rw [of_append] at ht
    unfold of
    rw [if_pos ha, hn]
    rcases Bool.or_eq_true_iff.mp ht with h1 | h1
    · rw [first_shut hF hp h1]; rfl
    · rw [Bool.and_eq_true] at h1
      rw [nulls_shut hg hp h1.1, h1.2]; simp
  have hall : allNull (nulls g) (p.right ++ v) = true → allNull (nulls g) (a :: v) = true := by
    intro h1
    rw [allNull_append, Bool.and_eq_true] at h1
    have h2 : allNull (nulls g) v = true := h1.2
    show (a.non && nulls g a.n.toNat && allNull (nulls g) v) = true
    rw [ha, hn, nulls_shut hg hp h1.1, h2]; rfl
  have hav := hb u a v rfl ha
  intro pre s l e hs
  rcases List.append_eq_append_iff.mp e with ⟨m, e1, e2⟩ | ⟨m, e1, e2⟩
  · -- within what came in, or behind it
    rcases List.append_eq_append_iff.mp e2 with ⟨k, e3, e4⟩ | ⟨k, e3, e4⟩
    · exact hb (u ++ a :: k) s l (by rw [e4]; simp) hs
    · cases k with
      | nil =>
        exact hb (u ++ [a]) s l (by
          have e4 : s :: l = v := e4
          rw [← e4]; simp) hs
      | cons y k =>
        injection e4 with e5 e6
        subst e5
        have e6 : l = k ++ v := e6
        have hsh := follow_shut h hp (pre := m) (s := s) (l := k) e3 hs
        constructor
        · intro t ht
          rw [e6, of_append] at ht
          rcases Bool.or_eq_true_iff.mp ht with h1 | h1
          · exact (hsh t).1 h1
          · rw [Bool.and_eq_true] at h1
            exact (hsh t).2 h1.1 (by rw [← hn]; exact hav.1 t h1.2)
        · intro h1
          rw [e6, allNull_append, Bool.and_eq_true] at h1
          exact (hsh 16).2 h1.1 (by rw [← hn]; exact hav.2 h1.2)
  · -- ahead of it
    cases m with
    | nil =>
      have e2 : s :: l = p.right ++ v := e2
      -- the first of what came in, or of what is behind
      cases er : p.right with
      | nil =>
        rw [er] at e2
        exact hb (u ++ [a]) s l (by have e2 : s :: l = v := e2; rw [← e2]; simp) hs
      | cons y k =>
        rw [er] at e2
        injection e2 with e5 e6
        subst e5
        have e6 : l = k ++ v := e6
        have hsh := follow_shut h hp (pre := []) (s := s) (l := k) er hs
        constructor
        · intro t ht
          rw [e6, of_append] at ht
          rcases Bool.or_eq_true_iff.mp ht with h1 | h1
          · exact (hsh t).1 h1
          · rw [Bool.and_eq_true] at h1
            exact (hsh t).2 h1.1 (by rw [← hn]; exact hav.1 t h1.2)
        · intro h1
          rw [e6, allNull_append, Bool.and_eq_true] at h1
          exact (hsh 16).2 h1.1 (by rw [← hn]; exact hav.2 h1.2)
    | cons y m =>
      injection e2 with e5 e6
      subst e5
      have e6 : l = m ++ (p.right ++ v) := e6
      have hb1 := hb pre s (m ++ a :: v) (by rw [e1]; simp) hs
      constructor
      · intro t ht
        apply hb1.1 t
        rw [e6, of_append] at ht
        rw [of_append]
        rcases Bool.or_eq_true_iff.mp ht with h1 | h1
        · rw [h1]; rfl
        · rw [Bool.and_eq_true] at h1
          rw [h1.1, hof t h1.2]; simp
      · intro h1
        apply hb1.2
        rw [e6, allNull_append, Bool.and_eq_true] at h1
        rw [allNull_append, h1.1, hall h1.2]; rfl
end Go.Proofs.Ytgmnokmchjeflaa.Fi
