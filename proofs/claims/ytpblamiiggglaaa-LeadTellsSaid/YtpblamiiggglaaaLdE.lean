/- Plain facts on the lead reference's reach: at which places what comes of symbols may end, and whether it may go on over the word's end. No program is named here. -/
import Derived.Test.YtpblamiiggglaaaLdMath
import Derived.Test.YtpblamiiggglaaaHTab
import Derived.Test.YtpblamiiggglaaaSpansS
import Derived.Test.YtpblamiiggglaaaLdC
import Derived.Test.YtpblamiiggglaaaRRankS
import Derived.BigQuiet
namespace Go.Proofs.Ytpblamiiggglaaa.Ld
open Gr (Sy Pr Gm okSy okPr Ok)
open Cf (Cm)
open Wi (Lives)

section
variable {g : Gm} {w : List Int} {f : Nat}
/-- What comes of symbols, from a place on, may end at a place. -/
def At (g : Gm) (w : List Int) (f : Nat) (l : List Sy) (b : Nat) : Prop := f ≤ b ∧ b ≤ w.length ∧ Cm g l (Cf.part w f b)
theorem at_nil (hf : f ≤ w.length) {b : Nat} : At g w f [] b ↔ b = f := by
  constructor
  · rintro ⟨h1, h2, h3⟩
    have h4 := part_len0 h2 h3.nil_inv
    omega
  · rintro rfl
    exact ⟨Nat.le_refl _, hf, by rw [Cf.part_self]; exact .nil⟩
where
  part_len0 {b : Nat} (h2 : b ≤ w.length) (h : Cf.part w f b = []) : b - f = 0 := by
    rw [← Cf.part_length (w := w) (a := f) h2, h]; rfl
theorem at_snoc {l : List Sy} {s : Sy} {b : Nat} : At g w f (l ++ [s]) b ↔ ∃ a, At g w f l a ∧ a ≤ b ∧ b ≤ w.length ∧ Cm g [s] (Cf.part w a b) := by
  constructor
  · rintro ⟨h1, h2, h3⟩
    obtain ⟨x, y, h4, h5, h6⟩ := Cf.Cm.split h3
    obtain ⟨a, h7, h8, h9, h10⟩ := Cf.part_split h1 h2 h4
    exact ⟨a, ⟨h7, by omega, by rw [h9]; exact h5⟩, h8, h2, by rw [h10]; exact h6⟩
  · rintro ⟨a, ⟨h1, h2, h3⟩, h4, h5, h6⟩
    exact ⟨by omega, h5, by rw [← Cf.part_append w h1 h4]; exact Cf.Cm.append h3 h6⟩
theorem at_tok {s : Sy} (hs : s.non = false) {a b : Nat} (hb : b ≤ w.length) (hab : a ≤ b) : Cm g [s] (Cf.part w a b) ↔ a < w.length ∧ w[a]? = some s.n ∧ b = a + 1 := by
  have e : s = ⟨false, s.n⟩ := by rw [← hs]
  constructor
  · intro h
    rw [e] at h
    have h3 := Cf.Cm.token.mp h
    have h4 := Cf.part_cons hb h3
    have h5 := Cf.part_length (w := w) (a := a) hb
    rw [h3, List.length_singleton] at h5
    exact ⟨by omega, h4.1, by omega⟩
  · rintro ⟨h1, h2, rfl⟩
    rw [Cf.part_one h2]
    exact .tok hs .nil
/-- It may go on over the end. -/
def Ov (g : Gm) (w : List Int) (f : Nat) (l : List Sy) : Prop := f = w.length ∨ ∃ j s, l[j]? = some s ∧ (At g w f (l.take (j + 1)) w.length ∨ (s.non = true ∧ ∃ a, At g w f (l.take j) a ∧ ∃ v, Cm g [s] (w.drop a ++ v)))
theorem drop_part {a b : Nat} (h1 : a ≤ b) (h2 : b ≤ w.length) : w.drop a = Cf.part w a b ++ w.drop b := by
  have h := Cf.part_append w h1 h2
  have e2 : ∀ c, Cf.part w c w.length = w.drop c := fun c => by rw [Sp.part_drop, List.take_of_length_le (by rw [List.length_drop]; omega)]
  rw [e2, e2] at h
  exact h.symm
theorem at_cons {s : Sy} {r : List Sy} {x : List Int} {b : Nat} (h1 : x <+: w.drop f) (hx : Cm g [s] x) (hb : At g w (f + x.length) r b) : At g w f (s :: r) b := by
  obtain ⟨h2, h3, h4⟩ := hb
  have hl : f + x.length ≤ w.length := by omega
  refine ⟨by omega, h3, ?_⟩
  rw [← Cf.part_append w (show f ≤ f + x.length by omega) h2]
  have e : Cf.part w f (f + x.length) = x := by rw [Sp.part_drop, Nat.add_sub_cancel_left]; exact (List.prefix_iff_eq_take.1 h1).symm
  rw [e]
  exact Cf.Cm.cons.mpr ⟨x, _, rfl, hx, h4⟩
theorem ov_of : ∀ {l : List Sy} {f : Nat} {v : List Int}, f ≤ w.length → Cm g l (w.drop f ++ v) → Ov g w f l
  | [], f, v, hf, h => by
    have h1 := (List.append_eq_nil_iff.mp h.nil_inv).1
    rw [List.drop_eq_nil_iff] at h1
    exact .inl (by omega)
  | s :: r, f, v, hf, h => by
    obtain ⟨x, y, h1, h2, h3⟩ := Cf.Cm.cons.mp h
    rcases List.append_eq_append_iff.mp h1 with ⟨m, e1, e2⟩ | ⟨m, e1, e2⟩
    · -- x goes on over the end
      cases hs : s.non with
      | true =>
        refine .inr ⟨0, s, rfl, .inr ⟨hs, f, (at_nil hf).2 rfl, m, ?_⟩⟩
        rw [← e1]; exact h2
      | false =>
        have e : s = ⟨false, s.n⟩ := by rw [← hs]
        have h4 := h2
        rw [e] at h4
        have h4 := Cf.Cm.token.mp h4
        by_cases hl : f = w.length
        · exact .inl hl
        · have hl : f < w.length := by omega
          rw [h4, List.drop_eq_getElem_cons hl, List.cons_append] at e1
          injection e1 with h5 h6
          have h7 := (List.append_eq_nil_iff.mp h6.symm).1
          rw [List.drop_eq_nil_iff] at h7
          have e7 : w.length = f + 1 := by omega
          refine .inr ⟨0, s, rfl, .inl ?_⟩
          refine ⟨by omega, Nat.le_refl _, ?_⟩
          show Cm g [s] _
          rw [at_tok hs (Nat.le_refl _) hf]
          exact ⟨hl, by rw [List.getElem?_eq_getElem hl, h5], e7⟩
    · have hp : x <+: w.drop f := ⟨m, e1.symm⟩
      have hxl := hp.length_le
      rw [List.length_drop] at hxl
      have e3 : w.drop (f + x.length) = m := by rw [← List.drop_drop, e1, List.drop_left]
      rw [e2] at h3
      have h3 : Cm g r (w.drop (f + x.length) ++ v) := by rw [e3]; exact h3
      rcases ov_of (by omega) h3 with h4 | ⟨j, t, h4, h5⟩
      · refine .inr ⟨0, s, rfl, .inl ?_⟩
        have := at_cons (r := []) hp h2 ((at_nil (by omega)).2 rfl)
        rw [h4] at this
        exact this
      · refine .inr ⟨j + 1, t, h4, ?_⟩
        rcases h5 with h5 | ⟨h5, a, h6, h7⟩
        · exact .inl (by rw [List.take_succ_cons]; exact at_cons hp h2 h5)
        · exact .inr ⟨h5, a, by rw [List.take_succ_cons]; exact at_cons hp h2 h6, h7⟩
theorem ov_iff (hv : Lives g) {l : List Sy} (hr : RowG g l) (hf : f ≤ w.length) : Ov g w f l ↔ ∃ v, Cm g l (w.drop f ++ v) := by
  constructor
  · rintro (h | ⟨j, s, h1, h2⟩)
    · obtain ⟨y, hy⟩ := hr.lives hv
      exact ⟨y, by rw [h, List.drop_length]; exact hy⟩
    · have hj : j < l.length := (List.getElem?_eq_some_iff.1 h1).1
      have hs : l[j] = s := (List.getElem?_eq_some_iff.1 h1).2
      obtain ⟨y, hy⟩ := RowG.lives (r := l.drop (j + 1)) (fun x hx => hr x (List.mem_of_mem_drop hx)) hv
      rcases h2 with ⟨h3, _, h4⟩ | ⟨hn, a, ⟨h3, h4, h5⟩, v, h6⟩
      · refine ⟨y, ?_⟩
        have e : Cf.part w f w.length = w.drop f := by rw [Sp.part_drop, List.take_of_length_le (by rw [List.length_drop]; omega)]
        rw [e] at h4
        have h := Cf.Cm.append h4 hy
        rwa [List.take_append_drop] at h
      · refine ⟨v ++ y, ?_⟩
        have h := Cf.Cm.append h5 (Cf.Cm.append h6 hy)
        have e : l.take j ++ ([s] ++ l.drop (j + 1)) = l := by
          rw [List.singleton_append, ← hs, ← List.drop_eq_getElem_cons hj, List.take_append_drop]
        rw [e] at h
        rw [drop_part h3 h4]
        simpa [List.append_assoc] using h
  · rintro ⟨v, h⟩
    exact ov_of hf h
/-- What is so of the first symbols, and one more. -/
theorem ov_zero : Ov g w f [] ↔ f = w.length := by
  constructor
  · rintro (h | ⟨j, s, h1, _⟩)
    · exact h
    · rw [List.getElem?_nil] at h1; cases h1
  · exact .inl
theorem ov_snoc {l : List Sy} {s : Sy} : Ov g w f (l ++ [s]) ↔ Ov g w f l ∨ At g w f (l ++ [s]) w.length ∨ (s.non = true ∧ ∃ a, At g w f l a ∧ ∃ v, Cm g [s] (w.drop a ++ v)) := by
  constructor
  · rintro (h | ⟨j, t, h1, h2⟩)
    · exact .inl (.inl h)
    · rcases Nat.lt_or_ge j l.length with hj | hj
      · rw [List.getElem?_append_left hj] at h1
        rw [List.take_append_of_le_length (by omega), List.take_append_of_le_length (by omega)] at h2
        exact .inl (.inr ⟨j, t, h1, h2⟩)
      · rw [List.getElem?_append_right hj] at h1
        have hz : j - l.length = 0 := by
          rcases Nat.eq_zero_or_pos (j - l.length) with h | h
          · exact h
          · rw [List.getElem?_eq_none (by simp; omega)] at h1; cases h1
        have hj : j = l.length := by omega
        subst hj
        rw [Nat.sub_self] at h1
        injection h1 with h1
        subst h1
        have e1 : (l ++ [s]).take (l.length + 1) = l ++ [s] := List.take_of_length_le (by simp)
        have e2 : (l ++ [s]).take l.length = l := List.take_left
        rw [e1, e2] at h2
        exact .inr h2
  · rintro (h | h)
    · rcases h with h | ⟨j, t, h1, h2⟩
      · exact .inl h
      · have hj : j < l.length := (List.getElem?_eq_some_iff.1 h1).1
        refine .inr ⟨j, t, by rw [List.getElem?_append_left hj]; exact h1, ?_⟩
        rw [List.take_append_of_le_length (by omega), List.take_append_of_le_length (by omega)]
        exact h2
    · refine .inr ⟨l.length, s, by simp, ?_⟩
      have e1 : (l ++ [s]).take (l.length + 1) = l ++ [s] := List.take_of_length_le (by simp)
      have e2 : (l ++ [s]).take l.length = l := List.take_left
      rw [e1, e2]
      exact h
end
/-- The production that fits, the first of them, or the last. -/
def bestOf (K : Nat) (p : Nat → Bool) (c : List Nat) : Option Nat := if K = 1 then c.reverse.find? p else c.find? p
theorem best_nil (K : Nat) (p : Nat → Bool) : bestOf K p [] = none := by unfold bestOf; split <;> rfl
theorem best_snoc (K : Nat) (p : Nat → Bool) (c : List Nat) (x : Nat) : bestOf K p (c ++ [x]) = if p x = true ∧ (bestOf K p c = none ∨ K = 1) then some x else bestOf K p c := by
  unfold bestOf
  by_cases hK : K = 1
  · rw [if_pos hK, if_pos hK, List.reverse_append, List.reverse_singleton, List.singleton_append, List.find?_cons]
    cases hp : p x with
    | true => rw [if_pos ⟨rfl, .inr hK⟩]
    | false => rw [if_neg (fun h => by cases h.1)]
  · rw [if_neg hK, if_neg hK, List.find?_append]
    cases h : c.find? p with
    | some y => rw [if_neg (fun h => h.2.elim (fun e => by cases e) hK)]; rfl
    | none =>
      rw [Option.none_or, List.find?_cons, List.find?_nil]
      cases hp : p x with
      | true => rw [if_pos ⟨rfl, .inl rfl⟩]
      | false => rw [if_neg (fun h => by cases h.1)]
theorem filter_one : ∀ {l : List Nat}, l.Pairwise (· < ·) → ∀ {f : Nat}, f ∈ l → l.filter (fun i => decide (i = f)) = [f]
  | [], _, f, h => by cases h
  | x :: l, hp, f, h => by
    rw [List.pairwise_cons] at hp
    rw [List.filter_cons]
    by_cases e : x = f
    · subst e
      rw [if_pos (by simp)]
      have : l.filter (fun i => decide (i = x)) = [] := List.filter_eq_nil_iff.2 fun y hy => by
        have := hp.1 y hy
        simp
        omega
      rw [this]
    · rw [if_neg (by simpa using e)]
      rcases List.mem_cons.1 h with h | h
      · exact absurd h.symm e
      · exact filter_one hp.2 h
/-- What the reference chooses from, and what it chooses. -/
def canOf (K : Nat) (ps : List Pr) (f : Nat) (atEnd : Bool) (n : Int) : List Nat := if K = 2 ∧ atEnd = true then [f] else ofL ps n
theorem pick_best {K : Nat} {g : Gm} {f : Nat → Nat} (hf : Fits g f) {u : List Int} {a : Nat} {n : Int} {r : List Sy} (h0 : 0 ≤ n) (hn : n < g.nons) :
    pick K g f u a n r = bestOf K (fun i => mayB K g u (rig g.prods i ++ r) a) (canOf K g.prods (f n.toNat) (decide (a = u.length)) n) := by
  unfold pick opts bestOf canOf
  by_cases h1 : K = 1
  · rw [if_pos h1, if_pos h1, if_neg (fun h => by omega)]
  · rw [if_neg h1, if_neg h1]
    by_cases h2 : K = 2 ∧ decide (a = u.length) = true
    · rw [if_pos h2, if_pos h2]
      obtain ⟨p, h3, h4⟩ := hf n.toNat (by omega)
      rw [Int.toNat_of_nonneg h0] at h4
      rw [filter_one (ofL_up _ _) (mem_ofL.2 ⟨p, h3, h4⟩)]
    · rw [if_neg h2, if_neg h2]
end Go.Proofs.Ytpblamiiggglaaa.Ld
/- The lead reference's reach, as rows of bools: what they say. -/
namespace Go.Proofs.Ytpblamiiggglaaa
open Gr (Sy Pr Gm)
open Cf (Cm)

/-- The places at which symbols may end, from a place on. -/
def atR (T : Cf.Tb) (u : List Int) (f : Nat) (l : List Sy) : Nat → Bool := walkF (l.map (Cf.sym T u)) (upd (fun _ => false) f true)
/-- Does a symbol go on over the end, from one of the first k places? -/
def ovS (W : Cf.Tb) (N L : Nat) (s : Sy) (at_ : Nat → Bool) (k : Nat) : Bool := s.non && (List.range k).any fun a => at_ a && W (N + s.n.toNat) a L
def ovK (T W : Cf.Tb) (N : Nat) (u : List Int) (f : Nat) (l : List Sy) : Nat → Bool
  | 0 => decide (f = u.length)
  | k + 1 => ovK T W N u f l k || (match l[k]? with | some s => ovS W N u.length s (atR T u f (l.take k)) (u.length + 1) | none => false) || atR T u f (l.take (k + 1)) u.length
section
variable {g : Gm} {u : List Int} {T W : Cf.Tb} {f N : Nat}
theorem atR_iff (hs : Cf.Sound g u T) (hc : Cf.Closed g u T) {l : List Sy} (hl : Cf.Pos l) {b : Nat} (hb : b ≤ u.length) : atR T u f l b = true ↔ Ld.At g u f l b := by
  unfold atR
  rw [walkF_map, Cf.walk_iff hb]
  constructor
  · rintro ⟨a, h1, h2⟩
    unfold upd at h1
    split at h1
    · rename_i e
      subst e
      have h3 := h2.le
      exact ⟨h3, hb, (Cf.table_ch hs hc hl h3 hb).1 h2⟩
    · cases h1
  · rintro ⟨h1, _, h3⟩
    exact ⟨f, by unfold upd; rw [if_pos rfl], (Cf.table_ch hs hc hl h1 hb).2 h3⟩
theorem pos_take {l : List Sy} (hl : Cf.Pos l) (k : Nat) : Cf.Pos (l.take k) := fun s hs => hl s (List.mem_of_mem_take hs)
theorem ovK_iff (hs : Cf.Sound g u T) (hc : Cf.Closed g u T) (hW : ∀ n a : Nat, n < N → a ≤ u.length → (W (N + n) a u.length = true ↔ ∃ v, Cm g [⟨true, (n : Int)⟩] (u.drop a ++ v))) {l : List Sy} (hl : Cf.Pos l) (hN : ∀ s ∈ l, s.non = true → 0 ≤ s.n ∧ s.n < (N : Int)) :
    ∀ {k : Nat}, k ≤ l.length → (ovK T W N u f l k = true ↔ Ld.Ov g u f (l.take k))
  | 0, _ => by
    unfold ovK
    rw [decide_eq_true_eq, List.take_zero, Ld.ov_zero]
  | k + 1, hk => by
    have hk1 : k < l.length := by omega
    have ih := ovK_iff hs hc hW hl hN (k := k) (by omega)
    unfold ovK
    rw [List.getElem?_eq_getElem hk1, Bool.or_eq_true, Bool.or_eq_true, ih, List.take_succ_eq_append_getElem hk1, Ld.ov_snoc, or_assoc]
    refine or_congr Iff.rfl ?_
    rw [or_comm]
    refine or_congr ?_ ?_
    · rw [← List.take_succ_eq_append_getElem hk1]
      exact atR_iff hs hc (pos_take hl _) (Nat.le_refl _)
    · show ovS W N u.length l[k] (atR T u f (l.take k)) (u.length + 1) = true ↔ _
      unfold ovS
      rw [Bool.and_eq_true]
      constructor
      · rintro ⟨h1, h2⟩
        obtain ⟨a, ha, h3⟩ := List.any_eq_true.1 h2
        rw [Bool.and_eq_true] at h3
        have ha : a ≤ u.length := by rw [List.mem_range] at ha; omega
        obtain ⟨n0, n1⟩ := hN _ (List.getElem_mem hk1) h1
        have h4 := (hW l[k].n.toNat a (by omega) ha).1 h3.2
        rw [Int.toNat_of_nonneg n0] at h4
        have e : l[k] = ⟨true, l[k].n⟩ := by rw [← h1]
        exact ⟨h1, a, (atR_iff hs hc (pos_take hl _) ha).1 h3.1, by rw [e]; exact h4⟩
      · rintro ⟨h1, a, h2, h3⟩
        obtain ⟨n0, n1⟩ := hN _ (List.getElem_mem hk1) h1
        have ha := h2.2.1
        have e : l[k] = ⟨true, l[k].n⟩ := by rw [← h1]
        rw [e] at h3
        refine ⟨h1, List.any_eq_true.2 ⟨a, List.mem_range.2 (by omega), ?_⟩⟩
        rw [Bool.and_eq_true]
        refine ⟨(atR_iff hs hc (pos_take hl _) ha).2 h2, (hW l[k].n.toNat a (by omega) ha).2 ?_⟩
        rw [Int.toNat_of_nonneg n0]
        exact h3
end
end Go.Proofs.Ytpblamiiggglaaa
/- The lead reference's reach. -/
namespace Go.Proofs.Ytpblamiiggglaaa
open Go.RowKit

theorem stepTo_put1 {F : Nat → Nat → Bool} {at_ : Nat → Bool} {a : Nat} (hat : at_ a = true) (hF : ∀ b, F a b = decide (b = a + 1)) : stepTo F at_ (a + 1) = upd (stepTo F at_ a) (a + 1) true := by
  funext b
  rw [stepTo_succ, hat, hF]
  unfold upd
  by_cases e : b = a + 1
  · rw [if_pos e, decide_eq_true e, decide_eq_true (show a ≤ b by omega)]; simp
  · rw [if_neg e, decide_eq_false e]; simp
theorem stepTo_put0 {F : Nat → Nat → Bool} {at_ : Nat → Bool} {a : Nat} (hF : ∀ b, F a b = false) : stepTo F at_ (a + 1) = stepTo F at_ a := by
  funext b
  rw [stepTo_succ, hF]
  simp
theorem sym_tok (T : Cf.Tb) (u : List Int) (x : Int) (a b : Nat) : Cf.sym T u ⟨false, x⟩ a b = (decide (u[a]? = some x) && decide (b = a + 1)) := by
  unfold Cf.sym
  rw [if_neg (fun h => by cases h), Bool.decide_and]

theorem hsyOf (l : List Gr.Sy) (N : Nat) (h : ∀ s ∈ l, s.non = true → 0 ≤ s.n ∧ s.n < (N : Int)) {k : Nat} (hk : k < l.length) : l[k].non = true → 0 ≤ l[k].n ∧ l[k].n < (N : Int) := h _ (List.getElem_mem hk)
/-- What reach leaves. -/
def RcPost (m : Nat) (h : Nat → Bool) (o : Bool) (w : World) (e : Ending) (w' : World) : Prop :=
  ∃ g c, e = .returned (.tuple #[.slice (some ⟨g, 0, none⟩) m c, .bool o]) ∧ RdP w' (fun b => w.heap.size ≤ b ∧ b < w'.heap.size) (some ⟨g, 0, none⟩) (bls m h) ∧ Bl w w'

theorem RdP.sym {w : World} {P : Nat → Prop} {A : Option Addr} {l : List Gr.Sy} (h : RdP w P A (syRow l)) {i : Nat} (hi : i < l.length) :
    ∃ b off, A = some ⟨b, off, none⟩ ∧ P b ∧ w.cell? ⟨b, off + i * 2, none⟩ = some (.bool l[i].non) ∧ w.cell? ⟨b, off + i * 2 + 1, none⟩ = some (.int .i64 l[i].n) := by
  obtain ⟨b, off, e, hb, hc⟩ := h (by rw [syRow_len]; omega)
  have h2 := row2_at (f := fun s : Gr.Sy => Value.bool s.non) (g := fun s : Gr.Sy => Value.int .i64 s.n) l i hi
  exact ⟨b, off, e, hb, by rw [Nat.add_comm off, Nat.add_comm]; exact hc _ _ h2.1, by rw [Nat.add_assoc]; exact hc _ _ h2.2⟩
theorem inTo_or (F : Nat → Nat → Bool) (at_ : Nat → Bool) {a j : Nat} (h : a ≤ j) : upd (inTo F at_ a j) j (inTo F at_ a j j || F a j) = inTo F at_ a (j + 1) := by
  cases hf : F a j with
  | true => rw [Bool.or_true, inTo_put F at_ h hf]
  | false =>
    rw [Bool.or_false, inTo_skip F at_ hf]
    funext b
    unfold upd
    split
    · rename_i e; rw [e]
    · rfl
theorem ovS_succ (W : Cf.Tb) (N L : Nat) (s : Gr.Sy) (at_ : Nat → Bool) (k : Nat) : ovS W N L s at_ (k + 1) = (ovS W N L s at_ k || (s.non && (at_ k && W (N + s.n.toNat) k L))) := by
  unfold ovS
  rw [List.range_succ, List.any_append, List.any_cons, List.any_nil, Bool.or_false]
  cases s.non <;> simp
theorem ovS_zero (W : Cf.Tb) (N L : Nat) (s : Gr.Sy) (at_ : Nat → Bool) : ovS W N L s at_ 0 = false := by unfold ovS; simp
theorem ovK_succ (T W : Cf.Tb) (N : Nat) (u : List Int) (f : Nat) (l : List Gr.Sy) {k : Nat} (hk : k < l.length) : ovK T W N u f l (k + 1) = (ovK T W N u f l k || ovS W N u.length l[k] (atR T u f (l.take k)) (u.length + 1) || atR T u f (l.take (k + 1)) u.length) := by
  conv => lhs; unfold ovK
  rw [List.getElem?_eq_getElem hk]
theorem atR_succ (T : Cf.Tb) (u : List Int) (f : Nat) (l : List Gr.Sy) {k : Nat} (hk : k < l.length) : atR T u f (l.take (k + 1)) = stepF (Cf.sym T u l[k]) (atR T u f (l.take k)) := by
  unfold atR
  rw [List.take_succ_eq_append_getElem hk, List.map_append, List.map_singleton, walkF_snoc]

set_option maxRecDepth 100000 in
set_option maxHeartbeats 8000000 in
theorem reach17_any (l : List Gr.Sy) (Al : Option Addr) (ll cl : Nat) (u : List Int) (Aw : Option Addr) (lw cw f N bo c1 B0 bw c2 B4 : Nat) (rows rows4 : List RowD) (T W : Cf.Tb) (w : World) (hll : ll = l.length) (hml : ll ≤ 1000000) (hrl : RdP w (fun b => b < w.heap.size) Al (syRow l))
    (hlw : lw = u.length) (hmw : lw ≤ 1000) (hrw : Rd w w.heap.size Aw (ins u)) (hf : f ≤ lw) (hN : N ≤ 1000) (hT : Tab B0 (lw + 1) (.slice (some ⟨bo, 0, none⟩) N c1) rows T w) (hTl : rows.length = N) (hW : Tab B4 (lw + 1) (.slice (some ⟨bw, 0, none⟩) (2 * N) c2) rows4 W w) (hWl : rows4.length = 2 * N)
    (hsy : ∀ s ∈ l, s.non = true → 0 ≤ s.n ∧ s.n < (N : Int)) :
    Calls Try.prog 25 #[.slice Al ll cl, .slice Aw lw cw, .int .i64 (f : Int), .slice (some ⟨bo, 0, none⟩) N c1, .slice (some ⟨bw, 0, none⟩) (2 * N) c2, .int .i64 (N : Int)] w (RcPost (lw + 1) (atR T u f l) (ovK T W N u f l l.length) w) := by
  obtain ⟨i0, hi, hz0, hz1, hz2⟩ := info_parts bool_info
  have HLl := Lib.hid hll
  have HLw := Lib.hid hlw
  have HSy := Lib.hid hsy
  have HTl := Lib.hid hTl
  have HWl := Lib.hid hWl
  have HRl : Hid (∀ wx, Bl w wx → RdP wx (fun b => b < w.heap.size) Al (syRow l)) := fun wx hb => hrl.keep fun b hb2 => Below.block hb b hb2
  have HRw : Hid (∀ wx, Bl w wx → Rd wx w.heap.size Aw (ins u)) := fun wx hb => hrw.bl (Nat.le_refl _) hb
  have HTt : Hid (∀ wx, Bl w wx → Tab B0 (lw + 1) (.slice (some ⟨bo, 0, none⟩) N c1) rows T wx) := fun wx hb => hT.bl_ hb
  have HWt : Hid (∀ wx, Bl w wx → Tab B4 (lw + 1) (.slice (some ⟨bw, 0, none⟩) (2 * N) c2) rows4 W wx) := fun wx hb => hW.bl_ hb
  clear hll hrl hlw hrw hT hTl hW hWl hsy
  go_enter Try.func25, Try.ntmps25
  go_wp2_with (refine wpList_make_full _ rfl (.tmp 22) (.tmp 22) 53 rfl w.heap.size 4 i0 (.bool false) 1 Try.underlying53 hi hz0 hz1 .i64 .i64 ((lw : Int) + 1) ((lw : Int) + 1) (lw + 1) rfl rfl (by omega) (by omega) (by rw [hz2]; omega) (by simp only [maxLen]; omega) (Nat.le_refl _) ?_; intro w1 hown1 hg1; rw [← bls_false] at hown1; have HO1 := Lib.hid hown1; have HB1 : Hid (Bl w w1) := (Bl.refl w).grown hg1 (by simp); have kf := hown1.frozenAt f; have kc := (hown1.cellAt f (by omega)).trans (bls_at _ (show f < lw + 1 by omega)); have klt := (hown1.lt _ rfl).2; clear hown1 hg1)
  have HO2 := Lib.hid (HO1.out.stored f (.bool true)).1
  have HB2 : Hid (Bl w (w1.setCell ⟨w.heap.size, f, none⟩ (.bool true))) := Bl.fr HB1.out ((Fr.refl (fun k => k = w.heap.size) w1).own _ _) (fun i hi e => by omega)
  have HA0 : Hid (RdP (w1.setCell ⟨w.heap.size, f, none⟩ (.bool true)) (fun b => w.heap.size ≤ b ∧ b < (w1.setCell ⟨w.heap.size, f, none⟩ (.bool true)).heap.size) (some ⟨w.heap.size, 0, none⟩) (bls (lw + 1) (atR T u f (l.take 0)))) := by
    have h := HO2.out
    rw [bls_set] at h
    exact RdP.of_own h fun b h1 h2 => ⟨h1, h2⟩
  have HOv0 : Hid ((((f : Int) == (lw : Int)) : Bool) = ovK T W N u f l 0) := by
    have h := HLw.out
    unfold Hid ovK
    rw [Bool.eq_iff_iff, beq_iff_eq, decide_eq_true_eq]
    omega
  clear HO1 HO2 HB1 kf kc klt
  go_wp2_with fail
  go_loopw [14, 15, 16] (fun v o i wr => ∃ (k g cg : Nat) (ov : Bool), k ≤ ll ∧ v = .slice (some ⟨g, 0, none⟩) (lw + 1) cg ∧ o = .bool ov ∧ i = .int .i64 k ∧ Hid (ov = ovK T W N u f l k) ∧ Hid (RdP wr (fun b => w.heap.size ≤ b ∧ b < wr.heap.size) (some ⟨g, 0, none⟩) (bls (lw + 1) (atR T u f (l.take k)))) ∧ Hid (Bl w wr)) (fun _ _ i _ => ll - (intOf i).toNat)
  case atStart => exact ⟨0, _, _, _, Nat.zero_le _, rfl, rfl, rfl, HOv0.out, HA0.out, HB2.out⟩
  case round =>
    obtain ⟨k, g, cg, ov, hk, rfl, rfl, rfl, HOv, HAk, HBk⟩ := hrel
    obtain ⟨wo, hwo⟩ : ∃ wo : World, wo = wr := ⟨_, rfl⟩
    subst hwo
    by_cases hlt : k < ll
    · have hj : k < l.length := by have := HLl.out; omega
      have hkl : (k : Int) < (ll : Int) := by omega
      have hk0 : (0 : Int) ≤ (k : Int) := by omega
      have HNext := Lib.hid (atR_succ T u f l hj)
      have HOn := Lib.hid (ovK_succ T W N u f l hj)
      have HSk := Lib.hid (hsyOf l N HSy.out hj)
      have HSym : Hid (∀ wx, Bl w wx → ∃ b off, Al = some ⟨b, off, none⟩ ∧ b < w.heap.size ∧ wx.cell? ⟨b, off + k * 2, none⟩ = some (.bool l[k].non) ∧ wx.cell? ⟨b, off + k * 2 + 1, none⟩ = some (.int .i64 l[k].n)) := fun wx hb => (HRl.out wx hb).sym hj
      rw [← HOv.out, ← HLw.out] at HOn
      generalize atR T u f (l.take k) = atk at *
      generalize l[k] = sy at *
      clear hj
      go_wp2_with (refine wpList_make_full _ rfl (.tmp 39) (.tmp 39) 53 rfl wo.heap.size 4 i0 (.bool false) 1 Try.underlying53 hi hz0 hz1 .i64 .i64 ((lw : Int) + 1) ((lw : Int) + 1) (lw + 1) rfl rfl (by omega) (by omega) (by rw [hz2]; omega) (by simp only [maxLen]; omega) (Nat.le_refl _) ?_; intro w3 hown3 hg3; rw [← bls_false] at hown3; have HO3 : Hid (w3.ownsRow wo.heap.size 4 1 (.slice (some ⟨wo.heap.size, 0, none⟩) (lw + 1) (lw + 1)) (lw + 1) (bls (lw + 1) (stepTo (Cf.sym T u sy) atk 0))) := hown3; have HB3 : Hid (Bl wo w3) := (Bl.refl wo).grown hg3 (by simp); clear hown3 hg3)
      go_wp2_with fail
      go_loopw [15, 18] (fun o i wr => ∃ (a : Nat) (oa : Bool), a ≤ lw + 1 ∧ o = .bool oa ∧ i = .int .i64 a ∧ Hid (oa = (ov || ovS W N lw sy atk a)) ∧ Hid (wr.ownsRow wo.heap.size 4 1 (.slice (some ⟨wo.heap.size, 0, none⟩) (lw + 1) (lw + 1)) (lw + 1) (bls (lw + 1) (stepTo (Cf.sym T u sy) atk a))) ∧ Hid (Bl wo wr)) (fun _ i _ => lw + 1 - (intOf i).toNat)
      case atStart => exact ⟨0, ov, Nat.zero_le _, rfl, rfl, by unfold Hid; rw [ovS_zero, Bool.or_false], HO3.out, HB3.out⟩
      case round =>
        obtain ⟨a, oa, ha, rfl, rfl, HOa, HOw, HBa⟩ := hrel
        by_cases hal : a < lw + 1
        · obtain ⟨ka, _, kg⟩ := (HAk.out.keep (fun b hb => bl_block HBa.out hb.2)).bls0 hal
          have hsz : wo.heap.size ≤ wr.heap.size := HBa.out.size
          have kgl : g < wr.heap.size := by omega
          have hale : (a : Int) ≤ (lw : Int) := by omega
          have ha0 : (0 : Int) ≤ (a : Int) := by omega
          have hal2 : (a : Int) < (lw : Int) + 1 := by omega
          have HOs := Lib.hid (ovS_succ W N lw sy atk a)
          cases hat : atk a with
          | false =>
            rw [hat] at ka HOs
            have HX : Hid (wr.ownsRow wo.heap.size 4 1 (.slice (some ⟨wo.heap.size, 0, none⟩) (lw + 1) (lw + 1)) (lw + 1) (bls (lw + 1) (stepTo (Cf.sym T u sy) atk (a + 1)))) := by
              rw [stepTo_skip _ atk hat]; exact HOw.out
            have HOx : Hid (oa = (ov || ovS W N lw sy atk (a + 1))) := by
              have h := HOs.out
              unfold Hid
              rw [h, Bool.false_and, Bool.and_false, Bool.or_false]
              exact HOa.out
            clear hat HOs HOa HOw
            go_wp2_with fail
            go_roundw
            case rel => exact ⟨a + 1, oa, by omega, rfl, by go_num, HOx.out, HX.out, HBa.out⟩
            case measure => simp [intOf]; omega
          | true =>
            rw [hat] at ka HOs
            have HAt := Lib.hid hat
            clear hat
            obtain ⟨bs, os, hAl, hbs, s0, s1⟩ := HSym.out wr (HBk.out.trans HBa.out)
            subst hAl
            have hbsw : bs < wr.heap.size := by have := HBk.out.size; omega
            obtain ⟨sn, sv⟩ := sy
            simp only at s0 s1
            cases sn with
            | false =>
              have HOx : Hid (oa = (ov || ovS W N lw ⟨false, sv⟩ atk (a + 1))) := by
                have h := HOs.out
                unfold Hid
                rw [h]
                show oa = (ov || (_ || (false && _)))
                rw [Bool.false_and, Bool.or_false]
                exact HOa.out
              clear HOs HOa
              by_cases hw : a < lw
              · have hau : a < u.length := by have := HLw.out; omega
                obtain ⟨b6, o6, hAw, hb6, hc6⟩ := (HRw.out wr (HBk.out.trans HBa.out)).int hau
                have hb6w : b6 < wr.heap.size := by have := HBk.out.size; omega
                have hwi : (a : Int) < (lw : Int) := by omega
                have HSt : Hid (∀ b, Cf.sym T u ⟨false, sv⟩ a b = (decide (u[a]'hau = sv) && decide (b = a + 1))) := fun b => by
                  rw [sym_tok, List.getElem?_eq_getElem hau]
                  simp
                subst hAw
                generalize u[a]'hau = x at *
                clear hau
                by_cases hx : x = sv
                · have hxq : (x == sv) = true := by rw [beq_iff_eq]; exact hx
                  have kf := HOw.out.frozenAt (a + 1)
                  have kc := (HOw.out.cellAt (a + 1) (by omega)).trans (bls_at _ (show a + 1 < lw + 1 by omega))
                  have klt := (HOw.out.lt _ rfl).2
                  have i9 : (a : Int) + 1 < (lw : Int) + 1 := by omega
                  have HX : Hid (∀ wx, Bl wr wx → (wx.setCell ⟨wo.heap.size, a + 1, none⟩ (.bool true)).ownsRow wo.heap.size 4 1 (.slice (some ⟨wo.heap.size, 0, none⟩) (lw + 1) (lw + 1)) (lw + 1) (bls (lw + 1) (stepTo (Cf.sym T u ⟨false, sv⟩) atk (a + 1)))) := fun wx hb => by
                    rw [stepTo_put1 HAt.out (fun b => by rw [HSt.out b, decide_eq_true hx, Bool.true_and]), ← bls_set]
                    exact ((own_bl HOw.out hb).stored (a + 1) (.bool true)).1
                  have HY : Hid (∀ wx, Bl wr wx → Bl wo (wx.setCell ⟨wo.heap.size, a + 1, none⟩ (.bool true))) := fun wx hb => Bl.fr (HBa.out.trans hb) ((Fr.refl (fun k => k = wo.heap.size) wx).own _ _) (fun i hi e => by omega)
                  clear HSt
                  go_wp2_with fail
                  go_quiet (fail)
                  go_wp2_with fail
                  go_loopw [19] (fun i wr => i = .int .i64 (a : Int) ∧ Hid (wr.ownsRow wo.heap.size 4 1 (.slice (some ⟨wo.heap.size, 0, none⟩) (lw + 1) (lw + 1)) (lw + 1) (bls (lw + 1) (stepTo (Cf.sym T u ⟨false, sv⟩) atk (a + 1)))) ∧ Hid (Bl wo wr)) (fun _ _ => 0)
                  case atStart => exact ⟨rfl, HX.out _ ((Bl.refl _).drewN _), HY.out _ ((Bl.refl _).drewN _)⟩
                  case round =>
                    obtain ⟨rfl, HXy, HYy⟩ := hrel
                    have hsz9 : wo.heap.size ≤ wr.heap.size := HYy.out.size
                    obtain ⟨bs9, os9, hAl9, hbs9, t0, t1⟩ := HSym.out wr (HBk.out.trans HYy.out)
                    injection hAl9 with hAl9
                    injection hAl9 with q1 q2 _
                    subst q1 q2
                    have hbsw9 : bs < wr.heap.size := by have := HBk.out.size; omega
                    go_wp2_with fail
                    go_roundw
                    case rel => exact ⟨a + 1, oa, by omega, rfl, by go_num, HOx.out, HXy.out, HYy.out⟩
                    case measure => simp [intOf]; omega
                · have hxq : (x == sv) = false := by rw [beq_eq_false_iff_ne]; exact hx
                  have HX : Hid (∀ wx, Bl wr wx → wx.ownsRow wo.heap.size 4 1 (.slice (some ⟨wo.heap.size, 0, none⟩) (lw + 1) (lw + 1)) (lw + 1) (bls (lw + 1) (stepTo (Cf.sym T u ⟨false, sv⟩) atk (a + 1)))) := fun wx hb => by
                    rw [stepTo_put0 (fun b => by rw [HSt.out b, decide_eq_false hx, Bool.false_and])]
                    exact own_bl HOw.out hb
                  clear HSt
                  go_wp2_with fail
                  go_quiet (fail)
                  go_wp2_with fail
                  go_loopw [19] (fun i wr => i = .int .i64 (a : Int) ∧ Hid (wr.ownsRow wo.heap.size 4 1 (.slice (some ⟨wo.heap.size, 0, none⟩) (lw + 1) (lw + 1)) (lw + 1) (bls (lw + 1) (stepTo (Cf.sym T u ⟨false, sv⟩) atk (a + 1)))) ∧ Hid (Bl wo wr)) (fun _ _ => 0)
                  case atStart => exact ⟨rfl, HX.out _ ((Bl.refl _).drewN _), HBa.out.trans ((Bl.refl _).drewN _)⟩
                  case round =>
                    obtain ⟨rfl, HXy, HYy⟩ := hrel
                    have hsz9 : wo.heap.size ≤ wr.heap.size := HYy.out.size
                    obtain ⟨bs9, os9, hAl9, hbs9, t0, t1⟩ := HSym.out wr (HBk.out.trans HYy.out)
                    injection hAl9 with hAl9
                    injection hAl9 with q1 q2 _
                    subst q1 q2
                    have hbsw9 : bs < wr.heap.size := by have := HBk.out.size; omega
                    go_wp2_with fail
                    go_roundw
                    case rel => exact ⟨a + 1, oa, by omega, rfl, by go_num, HOx.out, HXy.out, HYy.out⟩
                    case measure => simp [intOf]; omega
              · have hwi : ¬ ((a : Int) < (lw : Int)) := by omega
                have hau : u[a]? = none := List.getElem?_eq_none (by have := HLw.out; omega)
                have HX : Hid (∀ wx, Bl wr wx → wx.ownsRow wo.heap.size 4 1 (.slice (some ⟨wo.heap.size, 0, none⟩) (lw + 1) (lw + 1)) (lw + 1) (bls (lw + 1) (stepTo (Cf.sym T u ⟨false, sv⟩) atk (a + 1)))) := fun wx hb => by
                  rw [stepTo_put0 (fun b => by rw [sym_tok, hau]; simp)]
                  exact own_bl HOw.out hb
                clear hau
                go_wp2_with fail
                go_quiet (fail)
                go_wp2_with fail
                go_loopw [19] (fun i wr => i = .int .i64 (a : Int) ∧ Hid (wr.ownsRow wo.heap.size 4 1 (.slice (some ⟨wo.heap.size, 0, none⟩) (lw + 1) (lw + 1)) (lw + 1) (bls (lw + 1) (stepTo (Cf.sym T u ⟨false, sv⟩) atk (a + 1)))) ∧ Hid (Bl wo wr)) (fun _ _ => 0)
                case atStart => exact ⟨rfl, HX.out _ ((Bl.refl _).drewN _), HBa.out.trans ((Bl.refl _).drewN _)⟩
                case round =>
                  obtain ⟨rfl, HXy, HYy⟩ := hrel
                  have hsz9 : wo.heap.size ≤ wr.heap.size := HYy.out.size
                  obtain ⟨bs9, os9, hAl9, hbs9, t0, t1⟩ := HSym.out wr (HBk.out.trans HYy.out)
                  injection hAl9 with hAl9
                  injection hAl9 with q1 q2 _
                  subst q1 q2
                  have hbsw9 : bs < wr.heap.size := by have := HBk.out.size; omega
                  go_wp2_with fail
                  go_roundw
                  case rel => exact ⟨a + 1, oa, by omega, rfl, by go_num, HOx.out, HXy.out, HYy.out⟩
                  case measure => simp [intOf]; omega
            | true =>
              have hs9 := HSk.out rfl
              obtain ⟨v, rfl⟩ : ∃ v : Nat, sv = (v : Int) := ⟨sv.toNat, (Int.toNat_of_nonneg hs9.1).symm⟩
              have hvN : v < N := by have h : (v : Int) < (N : Int) := hs9.2; omega
              have hv0 : (0 : Int) ≤ (v : Int) := by omega
              have hvN2 : (v : Int) < (N : Int) := by omega
              have hw0 : (0 : Int) ≤ (N : Int) + (v : Int) := by omega
              have hw1 : (N : Int) + (v : Int) < 2 * (N : Int) := by omega
              have hw2 : ((N : Int) + (v : Int)).toNat = N + v := by omega
              obtain ⟨r1, cr1, g1, x1, x2, x3, x4, x5, x6⟩ := (HWt.out wr (HBk.out.trans HBa.out)).peek HWl.out (n := N + v) (a := a) (b := lw) (by omega) hal (by omega)
              have HOx : Hid ((oa || W (N + v) a lw) = (ov || ovS W N lw ⟨true, (v : Int)⟩ atk (a + 1))) := by
                have h := HOs.out
                unfold Hid
                rw [h, HOa.out]
                show _ = (ov || (_ || (true && (true && W (N + ((v : Int)).toNat) a lw))))
                rw [Int.toNat_natCast, Bool.true_and, Bool.true_and, Bool.or_assoc]
              clear HOs HOa hs9
              generalize W (N + v) a lw = wv at *
              cases wv with
              | true =>
                have HOy : Hid (true = (ov || ovS W N lw ⟨true, (v : Int)⟩ atk (a + 1))) := by have h := HOx.out; rwa [Bool.or_true] at h
                clear HOx
                go_wp2_with fail
                go_quiet (fail)
                go_wp2_with fail
                go_loopw [19] (fun i wr => ∃ j : Nat, a ≤ j ∧ j ≤ lw + 1 ∧ i = .int .i64 j ∧ Hid (wr.ownsRow wo.heap.size 4 1 (.slice (some ⟨wo.heap.size, 0, none⟩) (lw + 1) (lw + 1)) (lw + 1) (bls (lw + 1) (inTo (Cf.sym T u ⟨true, (v : Int)⟩) atk a j))) ∧ Hid (Bl wo wr)) (fun i _ => lw + 1 - (intOf i).toNat)
                case atStart => exact ⟨a, Nat.le_refl _, by omega, rfl, by rw [inTo_start]; exact own_bl HOw.out ((Bl.refl _).drewN _), HBa.out.trans ((Bl.refl _).drewN _)⟩
                case round =>
                  obtain ⟨j, haj, hj9, rfl, HOj, HBj⟩ := hrel
                  have hsz9 : wo.heap.size ≤ wr.heap.size := HBj.out.size
                  obtain ⟨bs9, os9, hAl9, hbs9, t0, t1⟩ := HSym.out wr (HBk.out.trans HBj.out)
                  injection hAl9 with hAl9
                  injection hAl9 with q1 q2 _
                  subst q1 q2
                  have hbsw9 : bs < wr.heap.size := by have := HBk.out.size; omega
                  by_cases hjl : j < lw + 1
                  · have hjle : (j : Int) ≤ (lw : Int) := by omega
                    have hj00 : (0 : Int) ≤ (j : Int) := by omega
                    have hjl2 : (j : Int) < (lw : Int) + 1 := by omega
                    obtain ⟨y1, z1, y2, y3, y4, y5, y6, y7, y8⟩ := (HTt.out wr (HBk.out.trans HBj.out)).peek HTl.out (n := v) (a := a) (b := j) hvN hal hjl
                    have kf := HOj.out.frozenAt j
                    have kc := (HOj.out.cellAt j (by omega)).trans (bls_at _ hjl)
                    have klt := (HOj.out.lt _ rfl).2
                    have HX : Hid ((wr.setCell ⟨wo.heap.size, j, none⟩ (.bool (inTo (Cf.sym T u ⟨true, (v : Int)⟩) atk a j j || T v a j))).ownsRow wo.heap.size 4 1 (.slice (some ⟨wo.heap.size, 0, none⟩) (lw + 1) (lw + 1)) (lw + 1) (bls (lw + 1) (inTo (Cf.sym T u ⟨true, (v : Int)⟩) atk a (j + 1)))) := by
                      rw [← inTo_or _ _ haj, ← bls_set]
                      exact (HOj.out.stored j _).1
                    have HY : Hid (∀ b, Bl wo (wr.setCell ⟨wo.heap.size, j, none⟩ (.bool b))) := fun b => Bl.fr HBj.out ((Fr.refl (fun k => k = wo.heap.size) wr).own _ _) (fun i hi e => by omega)
                    generalize inTo (Cf.sym T u ⟨true, (v : Int)⟩) atk a j j = nb at *
                    generalize T v a j = tv at *
                    cases nb <;> cases tv <;> (go_wp2_with fail; go_roundw; (case rel => exact ⟨j + 1, by omega, by omega, by go_num, HX.out, HY.out _⟩); (case measure => (simp [intOf]; omega)))
                  · have hje : ¬ ((j : Int) ≤ (lw : Int)) := by omega
                    have hjw : j = lw + 1 := by omega
                    have HXe : Hid (wr.ownsRow wo.heap.size 4 1 (.slice (some ⟨wo.heap.size, 0, none⟩) (lw + 1) (lw + 1)) (lw + 1) (bls (lw + 1) (stepTo (Cf.sym T u ⟨true, (v : Int)⟩) atk (a + 1)))) := by
                      have h := HOj.out
                      rw [hjw, bls_congr (fun b hb => inTo_end (Cf.sym T u ⟨true, (v : Int)⟩) atk HAt.out hb)] at h
                      exact h
                    clear hjw HOj
                    go_wp2_with fail
                    go_roundw
                    case rel => exact ⟨a + 1, true, by omega, rfl, by go_num, HOy.out, HXe.out, HBj.out⟩
                    case measure => simp [intOf]; omega
              | false =>
                have HOy : Hid (oa = (ov || ovS W N lw ⟨true, (v : Int)⟩ atk (a + 1))) := by have h := HOx.out; rwa [Bool.or_false] at h
                clear HOx
                go_wp2_with fail
                go_quiet (fail)
                go_wp2_with fail
                go_loopw [19] (fun i wr => ∃ j : Nat, a ≤ j ∧ j ≤ lw + 1 ∧ i = .int .i64 j ∧ Hid (wr.ownsRow wo.heap.size 4 1 (.slice (some ⟨wo.heap.size, 0, none⟩) (lw + 1) (lw + 1)) (lw + 1) (bls (lw + 1) (inTo (Cf.sym T u ⟨true, (v : Int)⟩) atk a j))) ∧ Hid (Bl wo wr)) (fun i _ => lw + 1 - (intOf i).toNat)
                case atStart => exact ⟨a, Nat.le_refl _, by omega, rfl, by rw [inTo_start]; exact own_bl HOw.out ((Bl.refl _).drewN _), HBa.out.trans ((Bl.refl _).drewN _)⟩
                case round =>
                  obtain ⟨j, haj, hj9, rfl, HOj, HBj⟩ := hrel
                  have hsz9 : wo.heap.size ≤ wr.heap.size := HBj.out.size
                  obtain ⟨bs9, os9, hAl9, hbs9, t0, t1⟩ := HSym.out wr (HBk.out.trans HBj.out)
                  injection hAl9 with hAl9
                  injection hAl9 with q1 q2 _
                  subst q1 q2
                  have hbsw9 : bs < wr.heap.size := by have := HBk.out.size; omega
                  by_cases hjl : j < lw + 1
                  · have hjle : (j : Int) ≤ (lw : Int) := by omega
                    have hj00 : (0 : Int) ≤ (j : Int) := by omega
                    have hjl2 : (j : Int) < (lw : Int) + 1 := by omega
                    obtain ⟨y1, z1, y2, y3, y4, y5, y6, y7, y8⟩ := (HTt.out wr (HBk.out.trans HBj.out)).peek HTl.out (n := v) (a := a) (b := j) hvN hal hjl
                    have kf := HOj.out.frozenAt j
                    have kc := (HOj.out.cellAt j (by omega)).trans (bls_at _ hjl)
                    have klt := (HOj.out.lt _ rfl).2
                    have HX : Hid ((wr.setCell ⟨wo.heap.size, j, none⟩ (.bool (inTo (Cf.sym T u ⟨true, (v : Int)⟩) atk a j j || T v a j))).ownsRow wo.heap.size 4 1 (.slice (some ⟨wo.heap.size, 0, none⟩) (lw + 1) (lw + 1)) (lw + 1) (bls (lw + 1) (inTo (Cf.sym T u ⟨true, (v : Int)⟩) atk a (j + 1)))) := by
                      rw [← inTo_or _ _ haj, ← bls_set]
                      exact (HOj.out.stored j _).1
                    have HY : Hid (∀ b, Bl wo (wr.setCell ⟨wo.heap.size, j, none⟩ (.bool b))) := fun b => Bl.fr HBj.out ((Fr.refl (fun k => k = wo.heap.size) wr).own _ _) (fun i hi e => by omega)
                    generalize inTo (Cf.sym T u ⟨true, (v : Int)⟩) atk a j j = nb at *
                    generalize T v a j = tv at *
                    cases nb <;> cases tv <;> (go_wp2_with fail; go_roundw; (case rel => exact ⟨j + 1, by omega, by omega, by go_num, HX.out, HY.out _⟩); (case measure => (simp [intOf]; omega)))
                  · have hje : ¬ ((j : Int) ≤ (lw : Int)) := by omega
                    have hjw : j = lw + 1 := by omega
                    have HXe : Hid (wr.ownsRow wo.heap.size 4 1 (.slice (some ⟨wo.heap.size, 0, none⟩) (lw + 1) (lw + 1)) (lw + 1) (bls (lw + 1) (stepTo (Cf.sym T u ⟨true, (v : Int)⟩) atk (a + 1)))) := by
                      have h := HOj.out
                      rw [hjw, bls_congr (fun b hb => inTo_end (Cf.sym T u ⟨true, (v : Int)⟩) atk HAt.out hb)] at h
                      exact h
                    clear hjw HOj
                    go_wp2_with fail
                    go_roundw
                    case rel => exact ⟨a + 1, oa, by omega, rfl, by go_num, HOy.out, HXe.out, HBj.out⟩
                    case measure => simp [intOf]; omega
        · have hae : ¬ ((a : Int) ≤ (lw : Int)) := by omega
          have haw : a = lw + 1 := by omega
          subst haw
          have HRow : Hid (RdP wr (fun b => wo.heap.size ≤ b ∧ b < wr.heap.size) (some ⟨wo.heap.size, 0, none⟩) (bls (lw + 1) (atR T u f (l.take (k + 1))))) := by
            have h := HOw.out
            rw [HNext.out, ← bls_congr (fun b hb => stepTo_end (Cf.sym T u sy) atk hb)]
            exact RdP.of_own h fun b h1 h2 => ⟨h1, h2⟩
          obtain ⟨kz, _, kzl⟩ := HRow.out.bls0 (show lw < lw + 1 by omega)
          have HOx : Hid ((oa || atR T u f (l.take (k + 1)) lw) = ovK T W N u f l (k + 1)) := by
            have h := HOn.out
            unfold Hid
            rw [h, HOa.out]
          have hwo : w.heap.size ≤ wo.heap.size := HBk.out.size
          have hsz : wo.heap.size ≤ wr.heap.size := HBa.out.size
          have HRow2 := Lib.hid (HRow.out.mono (Q := fun b => w.heap.size ≤ b ∧ b < wr.heap.size) fun b hb => ⟨by omega, hb.2⟩)
          have HBn := Lib.hid (HBk.out.trans HBa.out)
          have hll0 : (lw : Int) < (lw : Int) + 1 := by omega
          have hl00 : (0 : Int) ≤ (lw : Int) := by omega
          clear HOa HOn HOw HNext HRow
          generalize atR T u f (l.take (k + 1)) lw = az at *
          cases oa with
          | true =>
            have HOy : Hid (true = ovK T W N u f l (k + 1)) := by have h := HOx.out; rwa [Bool.true_or] at h
            clear HOx
            go_wp2_with fail
            go_roundw
            case rel => exact ⟨k + 1, wo.heap.size, lw + 1, true, by omega, rfl, rfl, by go_num, HOy.out, HRow2.out, HBn.out⟩
            case measure => simp [intOf]; omega
          | false =>
            have HOy : Hid (az = ovK T W N u f l (k + 1)) := by have h := HOx.out; rwa [Bool.false_or] at h
            clear HOx
            go_wp2_with fail
            go_roundw
            case rel => exact ⟨k + 1, wo.heap.size, lw + 1, az, by omega, rfl, rfl, by go_num, HOy.out, HRow2.out, HBn.out⟩
            case measure => simp [intOf]; omega
    · have hke : ¬ ((k : Int) < (ll : Int)) := by omega
      have hkk : k = ll := by omega
      have HFin : Hid (l.take k = l) := List.take_of_length_le (by have := HLl.out; omega)
      have HFo : Hid (ov = ovK T W N u f l l.length) := by have h1 := HOv.out; have h2 := HLl.out; unfold Hid; rw [h1, hkk, h2]
      have HAf := HAk
      rw [HFin.out] at HAf
      clear hkk HOv
      go_wp2_with fail
      go_ret2
      rw [← HFo.out]
      exact ⟨_, _, rfl, HAf.out, HBk.out⟩
end Go.Proofs.Ytpblamiiggglaaa
/- LeadTells' costs: it tells something. -/
namespace Go.Proofs.Ytpblamiiggglaaa
open Go.RowKit

theorem cost_int_info : (Try.prog.info? 3).map (fun i => (i.zero, i.size, i.bytes)) = some (some (.int .i64 0), 1, 8) := by kernel_rfl
/-- Numbers of 0 to 200 in a block. -/
def Szs (w : World) (g N : Nat) : Prop := ∃ xs : List Int, Bk w g 3 (ins xs).toArray ∧ xs.length = N ∧ ∀ x ∈ xs, 0 ≤ x ∧ x ≤ 200
theorem Szs.bl {w w' : World} {g N : Nat} (h : Szs w g N) (hb : Bl w w') : Szs w' g N := by obtain ⟨xs, h1, h2⟩ := h; exact ⟨xs, h1.bl hb, h2⟩
theorem Szs.lt {w : World} {g N : Nat} (h : Szs w g N) : g < w.heap.size := by obtain ⟨xs, h1, _⟩ := h; exact h1.lt
theorem Szs.cell {w : World} {g N : Nat} (h : Szs w g N) {i : Nat} (hi : i < N) : ∃ x : Int, w.cell? ⟨g, i, none⟩ = some (.int .i64 x) ∧ 0 ≤ x ∧ x ≤ 200 := by
  obtain ⟨xs, h1, h2, h3⟩ := h
  have hi : i < xs.length := by omega
  refine ⟨xs[i], ?_, h3 _ (List.getElem_mem hi)⟩
  rw [h1.cell i, List.getElem?_toArray]
  unfold ins
  rw [List.getElem?_map, List.getElem?_eq_getElem hi]
  rfl
theorem Szs.free {w : World} {g N : Nat} (h : Szs w g N) (i : Nat) : w.frozen? ⟨g, i, none⟩ = false := by obtain ⟨xs, h1, _⟩ := h; exact h1.free i
theorem Szs.put {w : World} {g N : Nat} (h : Szs w g N) (i : Nat) {x : Int} (h0 : 0 ≤ x) (hx : x ≤ 200) : Szs (w.setCell ⟨g, i, none⟩ (.int .i64 x)) g N := by
  obtain ⟨xs, h1, h2, h3⟩ := h
  refine ⟨xs.set i x, ?_, by rw [List.length_set]; exact h2, fun y hy => ?_⟩
  · have h4 := h1.put i (.int .i64 x)
    rw [List.setIfInBounds_toArray] at h4
    rwa [show (ins (xs.set i x)) = (ins xs).set i (.int .i64 x) by unfold ins; rw [List.map_set]]
  · rcases List.mem_or_eq_of_mem_set hy with hy | rfl
    · exact h3 y hy
    · exact ⟨h0, hx⟩
theorem Szs.of_own {w : World} {base n g : Nat} (h : w.ownsRow base 3 1 (.slice (some ⟨g, 0, none⟩) n n) n (madeCells (Value.cells (.int .i64 0)) (n * 1)).toList) : Szs w g n := by
  obtain ⟨h1, h2⟩ := h
  rcases h2 with ⟨h3, _⟩ | ⟨g', cap, cur, h3, hb, hg, hn, _, hcs, htake⟩
  · injection h3 with h3; cases h3
  · injection h3 with h3 _ h4
    injection h3 with h3
    injection h3 with h3 _ _
    subst h3
    subst h4
    refine ⟨List.replicate n 0, ?_, List.length_replicate, fun x hx => by rw [List.eq_of_mem_replicate hx]; decide⟩
    have hz : (madeCells (Value.cells (.int .i64 0)) (n * 1)).toList = ins (List.replicate n 0) := by
      have hc : Value.cells (.int .i64 0) = #[.int .i64 0] := by rfl
      rw [hc, toList_madeCells_one, Nat.mul_one]
      simp [ins]
    rw [hz] at htake
    have e : cur.toList = ins (List.replicate n 0) := by
      rw [← htake, List.take_of_length_le (by rw [Array.length_toList, hcs]; exact Nat.le_refl _)]
    rw [← e]
    exact hg

theorem cost_fact {g : Gr.Gm} (hok : Gr.Ok g) (hv : Wi.Lives g) {j : Nat} (hj : j < (factsOf true g).length) (hn : (j : Int) < g.nons) : (factsOf true g)[j].rank ≠ 0 ∧ ∃ p : Nat, (factsOf true g)[j].prod = (p : Int) ∧ p < g.prods.length := by
  constructor
  · have h1 : Rk.rk (Rk.ranks true g.prods g.nons.toNat) j ≠ 0 := (Rk.some_iff hok j).mpr (hv (j : Int) (by omega) hn)
    have e := factsOf_ok (terms := true) ((okB_iff g).2 hok)
    have hj2 : j < (fz (Rk.ranks true g.prods g.nons.toNat)).length := by rw [← e]; exact hj
    have h2 := fz_rank _ j hj2
    rw [show (factsOf true g)[j] = (fz (Rk.ranks true g.prods g.nons.toNat))[j] from by congr 1]
    omega
  · obtain ⟨p, h1, h2⟩ := factP_fits hok hv j hn
    refine ⟨factP g j, ?_, ?_⟩
    · have h3 := factsOf_prod hok j
      rw [List.getD_eq_getElem?_getD, List.getElem?_eq_getElem hj] at h3
      have h4 := factsOf_pos g _ (List.getElem_mem hj)
      have h3 : (factsOf true g)[j].prod.toNat = factP g j := h3
      omega
    · rcases Nat.lt_or_ge (factP g j) g.prods.length with h | h
      · exact h
      · rw [List.getElem?_eq_none h] at h1; cases h1

set_option maxRecDepth 100000 in
set_option maxHeartbeats 3200000 in
theorem costs_any (t n s : Int) (A : Option Addr) (len c : Nat) (ps : List Gr.Pr) (w : World) (B : Nat) (hlen : len = ps.length) (hmax : len ≤ 9223372036854775807) (hr : Prs w B A ps) (hB : B ≤ w.heap.size) (hok : Gr.Ok ⟨t, n, s, ps⟩) (hv : Wi.Lives ⟨t, n, s, ps⟩) :
    Calls Try.prog 10 #[.agg #[.int .i64 t, .int .i64 n, .int .i64 s, .slice A len c]] w fun e w' => (∃ b, e = .returned (.bool b)) ∧ Bl w w' := by
  obtain ⟨i0, hi, hz0, hz1, hz2⟩ := info_parts cost_int_info
  have ho := (okB_iff _).2 hok
  obtain ⟨n1, n2, n3⟩ := ok_nons ho
  obtain ⟨N, rfl⟩ : ∃ N : Nat, n = (N : Int) := ⟨n.toNat, by omega⟩
  have HB0 : Hid (Bl w (w.alloc (.cells #[.int .i64 t, .int .i64 (N : Int), .int .i64 s, .slice A len c] 24))) := (Bl.refl w).alloc _
  have HK0 := Lib.hid (Bk.new w 24 #[.int .i64 t, .int .i64 (N : Int), .int .i64 s, .slice A len c])
  have HRk := Lib.hid (fun wx (hb : Bl w wx) => rranks_any t N s A len c ps true wx B hlen hmax (hr.bl hB hb) (Nat.le_trans hB hb.size))
  have HPr : Hid (∀ wx, Bl w wx → Prs wx B A ps) := fun wx hb => hr.bl hB hb
  have HFl : Hid ((factsOf true ⟨t, (N : Int), s, ps⟩).length = N) := by
    have h := factsOf_len (terms := true) ho
    unfold Hid
    rw [h]
    exact Int.toNat_natCast N
  have HLn := Lib.hid hlen
  clear hr hlen ho
  go_enter Try.func10, Try.ntmps10
  go_wp2_with fail
  refine (HRk.out _ HB0.out).mono ?_
  rintro e w1 ⟨Af, lf, cf, rfl, hlf, hrf, hb1⟩
  replace hlf : lf = N := hlf.trans HFl.out
  subst hlf
  have HRf := Lib.hid hrf
  have HB1 := Lib.hid (HB0.out.trans hb1)
  have HK1 := Lib.hid (HK0.out.bl hb1)
  clear hrf hb1 HB0 HK0 HRk
  have kl := HK1.out.lt
  have hlf24 : lf ≤ 24 := by omega
  go_wp2_with (refine wpList_make_full _ rfl (.tmp 15) (.tmp 15) 25 rfl w1.heap.size 3 i0 (.int .i64 0) 1 Try.underlying25 hi hz0 hz1 .i64 .i64 (lf : Int) (lf : Int) lf rfl rfl rfl rfl (by rw [hz2]; omega) (by simp only [maxLen]; omega) (Nat.le_refl _) ?_; intro w2 hown2 hg2; have HS2 := Lib.hid (Szs.of_own hown2); have HB12 : Hid (Bl w1 w2) := (Bl.refl w1).grown hg2 (fun k hk => by cases hk); clear hown2 hg2)
  have HB2 := Lib.hid (HB1.out.trans HB12.out)
  have HK2 := Lib.hid (HK1.out.bl HB12.out)
  obtain ⟨gs, hgs⟩ : ∃ gs, gs = w1.heap.size := ⟨_, rfl⟩
  rw [← hgs] at HS2 ⊢
  have hgw : w.heap.size < gs := by rw [hgs]; exact HK1.out.lt
  have HRf2 : Hid (∀ wx, Fr (fun k => k = gs) w2 wx → Rd wx w1.heap.size Af (fcRow (factsOf true ⟨t, (lf : Int), s, ps⟩))) := fun wx hf => by
    have h := HRf.out.bl (Nat.le_refl _) HB12.out
    exact h.far_fr HB12.out.size (by rw [hgs]; exact Nat.le_refl _) hf
  clear hgs
  go_wp2_with fail
  go_loopw [19] (fun v wr => ∃ k : Nat, k ≤ lf ∧ v = .int .i64 (k : Int) ∧ Hid (Szs wr gs lf) ∧ Hid (Fr (fun k => k = gs) w2 wr)) (fun v _ => lf - (intOf v).toNat)
  case atStart => exact ⟨0, Nat.zero_le _, rfl, HS2.out, Fr.refl _ _⟩
  case round =>
    obtain ⟨k, hk, rfl, HS, HF⟩ := hrel
    by_cases hlt : k < lf
    · have hlti : (k : Int) < (lf : Int) := by omega
      go_wp2_with fail
      go_loopw [23] (fun v wq => ∃ j : Nat, j ≤ lf ∧ v = .int .i64 (j : Int) ∧ Hid (Szs wq gs lf) ∧ Hid (Fr (fun k => k = gs) w2 wq)) (fun v _ => lf - (intOf v).toNat)
      case atStart => exact ⟨0, Nat.zero_le _, rfl, HS.out, HF.out⟩
      case round =>
        obtain ⟨j, hj, rfl, HSq, HFq⟩ := hrel
        have hBw : B ≤ gs := by omega
        by_cases hjt : j < lf
        · have hjti : (j : Int) < (lf : Int) := by omega
          have hj0 : (0 : Int) ≤ (j : Int) := by omega
          obtain ⟨hr0, p, hp1, hp2⟩ := cost_fact hok hv (j := j) (by rw [HFl.out]; exact hjt) hjti
          obtain ⟨bf, offf, hAf, hbf, f0, f1⟩ := (HRf2.out wr HFq.out).fact (i := j) (by rw [HFl.out]; exact hjt)
          rw [hp1] at f1
          obtain ⟨b, off, Ax, cx, hA, hbB, hrx, hq0, hq1⟩ := ((HPr.out _ HB2.out).far_fr (by have := HB2.out.size; omega) hBw HFq.out).at_ hp2
          have HSy := Lib.hid ((ok_syms ((okB_iff _).2 hok) hp2).2.2)
          have HRx := Lib.hid hrx
          have hpl : (p : Int) < (len : Int) := by have := HLn.out; have h : p < ps.length := hp2; omega
          have hp0 : (0 : Int) ≤ (p : Int) := by omega
          have hbw : b < wr.heap.size := by have := HB2.out.size; have := HFq.out.size; omega
          have hbfw : bf < wr.heap.size := by have := HB12.out.size; have := HFq.out.size; omega
          have HKq := Lib.hid (HK2.out.fr HFq.out (by omega))
          have k3 : wr.cell? ⟨w.heap.size, 3, none⟩ = some (.slice A len c) := HKq.out.cell 3
          have kl := HKq.out.lt
          subst hA hAf
          have hm8 : ps[p].right.length ≤ 8 := (ok_syms ((okB_iff _).2 hok) hp2).2.1
          have hjf : j < (factsOf true ⟨t, (lf : Int), s, ps⟩).length := by rw [HFl.out]; exact hjt
          generalize (factsOf true ⟨t, (lf : Int), s, ps⟩)[j].rank = rk at *
          clear hjf
          generalize ps[p].right = rs at *
          obtain ⟨m, hm⟩ : ∃ m, m = rs.length := ⟨_, rfl⟩
          rw [← hm] at hq1 hm8
          have HM := Lib.hid hm
          have hq2 : (rk == 0) = false := by rw [beq_eq_false_iff_ne]; exact hr0
          have HRk2 := Lib.hid hr0
          clear hq0 hp1 hp2 hrx hm hr0
          go_wp2_with fail
          obtain ⟨wd, hwd⟩ : ∃ wd, wd = wr.alloc (.cells #[.int .i64 rk, .int .i64 (p : Int)] 50) := ⟨_, rfl⟩
          have HBd : Hid (Bl wr wd) := by rw [hwd]; exact (Bl.refl _).alloc _
          try rw [← hwd]
          have HSd := Lib.hid (HSq.out.bl HBd.out)
          have HFd : Hid (Fr (fun k => k = gs) w2 wd) := Fr.after HFq.out HBd.out
          have hBr : B ≤ wr.heap.size := by have := HB2.out.size; have := HFq.out.size; omega
          have HRd : Hid (∀ wy, Bl wd wy → Rd wy B Ax (syRow rs)) := fun wy hb => HRx.out.bl hBr (HBd.out.trans hb)
          have hBd : B ≤ wd.heap.size := Nat.le_trans hBr HBd.out.size
          clear hwd HSq HFq HRx f0 f1 hq1 k3 kl HKq hbw hbfw hBr
          go_loopw [39, 7] (fun v x wr => ∃ (i : Nat) (y : Int), i ≤ m ∧ v = .int .i64 (i : Int) ∧ x = .int .i64 y ∧ 0 ≤ y ∧ y ≤ 200 ∧ Hid (Bl wd wr)) (fun v _ _ => m - (intOf v).toNat)
          case atStart => exact ⟨0, 1, Nat.zero_le _, rfl, rfl, by omega, by omega, Bl.refl _⟩
          case round =>
            obtain ⟨i, y, hi2, rfl, rfl, hy0, hy1, HBy⟩ := hrel
            have HSy2 := Lib.hid (HSd.out.bl HBy.out)
            have fl := HSy2.out.lt
            by_cases hit : i < m
            · have hiti : (i : Int) < (m : Int) := by omega
              have hi0 : (0 : Int) ≤ (i : Int) := by omega
              have hir : i < rs.length := by have := HM.out; omega
              obtain ⟨b3, o3, hA3, hb3, s0, s1⟩ := (HRd.out wr HBy.out).sym hir
              subst hA3
              have hb3w : b3 < wr.heap.size := by have := HBy.out.size; omega
              have HX := Lib.hid (HSy.out rs[i] (List.getElem_mem hir))
              generalize rs[i] = sy at *
              obtain ⟨sn, sv⟩ := sy
              simp only at s0 s1
              clear hir
              cases sn with
              | true =>
                obtain ⟨hv0, hv1⟩ := HX.out rfl
                simp only at hv0 hv1
                obtain ⟨v, rfl⟩ : ∃ v : Nat, sv = (v : Int) := ⟨sv.toNat, by omega⟩
                obtain ⟨z, z0, z1, z2⟩ := HSy2.out.cell (i := v) (by omega)
                have hzw : IntKind.i64.wrap (y + z) = y + z := by simp [IntKind.wrap, IntKind.bits, IntKind.signed]; omega
                have HBn : Hid (Bl wd (wr.alloc (.cells #[.bool true, .int .i64 (v : Int)] 41))) := HBy.out.alloc _
                clear HX
                go_wp2_with fail
                go_roundw
                case rel => exact ⟨i + 1, if 200 < y + z then 200 else y + z, by omega, by go_num, rfl, by split <;> omega, by split <;> omega, HBn.out⟩
                case measure => simp [intOf]; omega
              | false =>
                have HBn : Hid (Bl wd (wr.alloc (.cells #[.bool false, .int .i64 sv] 41))) := HBy.out.alloc _
                clear HX
                go_wp2_with fail
                go_roundw
                case rel => exact ⟨i + 1, y, by omega, by go_num, rfl, by omega, by omega, HBn.out⟩
                case measure => simp [intOf]; omega
            · have hie : ¬ ((i : Int) < (m : Int)) := by omega
              have fz0 := HSy2.out.free j
              obtain ⟨z, z0, _, _⟩ := HSy2.out.cell (i := j) hjt
              go_wp2_with fail
              go_roundw
              case rel => exact ⟨j + 1, by omega, by go_num, HSy2.out.put j hy0 hy1, (Fr.after HFd.out HBy.out).setCell (p := ⟨gs, j, none⟩) (.inl rfl) _⟩
              case measure => simp [intOf]; omega
        · have hje : ¬ ((j : Int) < (lf : Int)) := by omega
          go_wp2_with fail
          go_roundw
          case rel => exact ⟨k + 1, by omega, by go_num, HSq.out, HFq.out⟩
          case measure => simp [intOf]; omega
    · have hke : ¬ ((k : Int) < (lf : Int)) := by omega
      have HBr : Hid (Bl w wr) := HB2.out.fr HF.out (fun k hk e => by omega)
      go_wp2_with fail
      go_loopw [62] (fun v wy => ∃ j : Nat, j ≤ lf ∧ v = .int .i64 (j : Int) ∧ Hid (wy = wr)) (fun v _ => lf - (intOf v).toNat)
      case atStart => exact ⟨0, Nat.zero_le _, rfl, (rfl : wr = wr)⟩
      case round =>
        obtain ⟨j, hj, rfl, HW⟩ := hrel
        have hw := HW.out
        subst hw
        clear HW
        by_cases hjt : j < lf
        · have hjti : (j : Int) < (lf : Int) := by omega
          have hj0 : (0 : Int) ≤ (j : Int) := by omega
          obtain ⟨z, z0, z1, z2⟩ := HS.out.cell hjt
          have fl := HS.out.lt
          by_cases hz : (20 : Int) < z
          · go_wp2_with fail
            go_ret
            exact ⟨⟨_, rfl⟩, HBr.out⟩
          · go_wp2_with fail
            go_roundw
            case rel => exact ⟨j + 1, by omega, by go_num, by first | exact True.intro | exact rfl⟩
            case measure => simp [intOf]; omega
        · have hje : ¬ ((j : Int) < (lf : Int)) := by omega
          go_wp2_with fail
          go_ret
          exact ⟨.inl rfl, HBr.out⟩
end Go.Proofs.Ytpblamiiggglaaa
