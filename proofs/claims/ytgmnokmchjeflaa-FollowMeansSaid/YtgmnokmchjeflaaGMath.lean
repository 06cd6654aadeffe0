/- Plain facts on grammars, their bytes, and what is read of bytes. No program is named here. -/
import Derived.Test.YtgmnokmchjeflaaWMath
namespace Go.Proofs.Ytgmnokmchjeflaa.Gr

structure Sy where
  non : Bool
  n : Int
structure Pr where
  left : Int
  right : List Sy
structure Gm where
  terms : Int
  nons : Int
  start : Int
  prods : List Pr

/-- May a symbol, a production, a grammar be? -/
def okSy (g : Gm) (s : Sy) : Prop := 0 ≤ s.n ∧ (s.non = true → s.n < g.nons) ∧ (s.non = false → s.n < g.terms)
def okPr (g : Gm) (p : Pr) : Prop := 0 ≤ p.left ∧ p.left < g.nons ∧ p.right.length ≤ 8 ∧ ∀ s ∈ p.right, okSy g s
def Ok (g : Gm) : Prop := 0 ≤ g.terms ∧ g.terms ≤ 16 ∧ 1 ≤ g.nons ∧ g.nons ≤ 24 ∧ 0 ≤ g.start ∧ g.start < g.nons ∧ g.prods.length ≤ 60 ∧ ∀ p ∈ g.prods, okPr g p

/-- A symbol's number, and back. -/
def code (s : Sy) : Nat := 2 * s.n.toNat + (if s.non then 1 else 0)
def sym (n : Nat) : Sy := ⟨decide (n % 2 = 1), ((n / 2 : Nat) : Int)⟩
theorem sym_code (s : Sy) (h : 0 ≤ s.n) : sym (code s) = s := by
  obtain ⟨b, n⟩ := s
  have h : 0 ≤ n := h
  have e : ((n.toNat : Nat) : Int) = n := Int.toNat_of_nonneg h
  cases b with
  | true =>
    have h1 : (2 * n.toNat + 1) % 2 = 1 := by omega
    have h2 : (2 * n.toNat + 1) / 2 = n.toNat := by omega
    show (⟨decide ((2 * n.toNat + 1) % 2 = 1), (((2 * n.toNat + 1) / 2 : Nat) : Int)⟩ : Sy) = ⟨true, n⟩
    rw [h2, e, decide_eq_true h1]
  | false =>
    have h1 : ¬ (2 * n.toNat + 0) % 2 = 1 := by omega
    have h2 : (2 * n.toNat + 0) / 2 = n.toNat := by omega
    show (⟨decide ((2 * n.toNat + 0) % 2 = 1), (((2 * n.toNat + 0) / 2 : Nat) : Int)⟩ : Sy) = ⟨false, n⟩
    rw [h2, e, decide_eq_false h1]
theorem code_sym (n : Nat) : code (sym n) = n := by
  have e : (((n / 2 : Nat) : Int)).toNat = n / 2 := Int.toNat_natCast _
  show 2 * (((n / 2 : Nat) : Int)).toNat + (if decide (n % 2 = 1) = true then 1 else 0) = n
  rw [e]
  by_cases h : n % 2 = 1
  · rw [if_pos (by simpa using h)]; omega
  · rw [if_neg (by simpa using h)]; omega

/-- The bytes of numbers, one behind the other. -/
def encs (l : List Nat) : List Nat := l.flatMap Vy.enc
theorem encs_cons (n : Nat) (l : List Nat) : encs (n :: l) = Vy.enc n ++ encs l := rfl
theorem encs_append (a b : List Nat) : encs (a ++ b) = encs a ++ encs b := by simp [encs]
/-- The numbers of a production, and of a grammar. -/
def prNums (p : Pr) : List Nat := p.left.toNat :: p.right.length :: p.right.map code
def gmNums (g : Gm) : List Nat := g.terms.toNat :: g.nons.toNat :: g.start.toNat :: g.prods.length :: g.prods.flatMap prNums
def gmBytes (g : Gm) : List Nat := encs (gmNums g)

/-- What is read: symbols, a production, productions, a grammar. -/
def rdPr (s : Wr.St) : Pr × Wr.St :=
  (⟨((Wr.num s 23).1 : Int), ((Wr.many (Wr.num (Wr.num s 23).2 8).1 (Wr.num (Wr.num s 23).2 8).2 47).1).map sym⟩, (Wr.many (Wr.num (Wr.num s 23).2 8).1 (Wr.num (Wr.num s 23).2 8).2 47).2)
def rdPrs : Nat → Wr.St → List Pr × Wr.St
  | 0, s => ([], s)
  | k + 1, s => ((rdPr s).1 :: (rdPrs k (rdPr s).2).1, (rdPrs k (rdPr s).2).2)

/-- A number that was read without fault stood there. -/
theorem num_inv {l : List Nat} {most : Nat} (hb : ∀ c ∈ l, c < 256) (h : (Wr.num ⟨l, 0⟩ most).2.e = 0) :
    ∃ r, l = Vy.enc (Wr.num ⟨l, 0⟩ most).1 ++ r ∧ (Wr.num ⟨l, 0⟩ most).2 = ⟨r, 0⟩ ∧ ∀ c ∈ r, c < 256 := by
  by_cases h1 : (Vy.dec l).2.2 = 0
  · obtain ⟨v, m, hd, _, _, _, he⟩ := Vy.dec_ok l hb h1
    by_cases h2 : most < v
    · have e := Wr.num_big (s := ⟨l, 0⟩) rfl h1 (most := most) (by show most < (Vy.dec l).1; rw [hd]; exact h2)
      rw [e] at h
      exact absurd h (by decide)
    · have e := Wr.num_fine (s := ⟨l, 0⟩) rfl h1 (most := most) (by show (Vy.dec l).1 ≤ most; rw [hd]; show v ≤ most; omega)
      rw [e]
      refine ⟨l.drop m, ?_, ?_, fun c hc => hb c (List.mem_of_mem_drop hc)⟩
      · show l = Vy.enc (Vy.dec l).1 ++ l.drop m
        rw [hd, he, List.take_append_drop]
      · show (⟨l.drop (Vy.dec l).2.1, 0⟩ : Wr.St) = _
        rw [hd]
  · have e := Wr.num_err (s := ⟨l, 0⟩) rfl h1 most
    rw [e] at h
    have h : ((Vy.dec l).2.2 : Int) = 0 := h
    omega
theorem num_zero {s : Wr.St} {most : Nat} (h : (Wr.num s most).2.e = 0) : s.e = 0 := Classical.byContradiction fun hne => by
  rw [Wr.num_bad hne] at h; exact hne h
theorem many_zero : ∀ (k : Nat) {s : Wr.St} {most : Nat}, (Wr.many k s most).2.e = 0 → s.e = 0
  | 0, _, _, h => h
  | k + 1, _, _, h => num_zero (many_zero k h)
theorem many_inv : ∀ (k : Nat) {l : List Nat} {most : Nat} (_ : ∀ c ∈ l, c < 256), (Wr.many k ⟨l, 0⟩ most).2.e = 0 →
    ∃ r, l = encs (Wr.many k ⟨l, 0⟩ most).1 ++ r ∧ (Wr.many k ⟨l, 0⟩ most).2 = ⟨r, 0⟩ ∧ ∀ c ∈ r, c < 256
  | 0, l, _, hb, _ => ⟨l, rfl, rfl, hb⟩
  | k + 1, l, most, hb, h => by
    have h0 : (Wr.num ⟨l, 0⟩ most).2.e = 0 := many_zero k h
    obtain ⟨r, e1, e2, hr⟩ := num_inv hb h0
    have h' : (Wr.many k ⟨r, 0⟩ most).2.e = 0 := by
      have h : (Wr.many k (Wr.num ⟨l, 0⟩ most).2 most).2.e = 0 := h
      rw [e2] at h; exact h
    obtain ⟨r', e3, e4, hr'⟩ := many_inv k hr h'
    refine ⟨r', ?_, ?_, hr'⟩
    · show l = encs ((Wr.num ⟨l, 0⟩ most).1 :: (Wr.many k (Wr.num ⟨l, 0⟩ most).2 most).1) ++ r'
      rw [encs_cons, e2, List.append_assoc, ← e3, ← e1]
    · show (Wr.many k (Wr.num ⟨l, 0⟩ most).2 most).2 = _
      rw [e2]; exact e4
theorem many_encs : ∀ (l : List Nat) (most : Nat) (_ : ∀ n ∈ l, n ≤ most) (_ : most < 18446744073709551616) (r : List Nat), Wr.many l.length ⟨encs l ++ r, 0⟩ most = (l, ⟨r, 0⟩)
  | [], _, _, _, _ => rfl
  | n :: l, most, h, hm, r => by
    have hn := h n (by simp)
    have e := Wr.num_enc n most (by omega) hn (encs l ++ r)
    have ih := many_encs l most (fun m hm => h m (by simp [hm])) hm r
    simp only [List.length_cons, Wr.many, encs_cons, List.append_assoc, e, ih]

/-- A production is read as it was written. -/
theorem rdPr_back (g : Gm) (hg : g.nons ≤ 24) (ht : g.terms ≤ 16) (p : Pr) (h : okPr g p) (r : List Nat) : rdPr ⟨encs (prNums p) ++ r, 0⟩ = (p, ⟨r, 0⟩) := by
  obtain ⟨h1, h2, h3, h4⟩ := h
  have e1 : encs (prNums p) ++ r = Vy.enc p.left.toNat ++ (Vy.enc p.right.length ++ (encs (p.right.map code) ++ r)) := by
    simp [prNums, encs_cons]
  have n1 := Wr.num_enc p.left.toNat 23 (by omega) (by omega) (Vy.enc p.right.length ++ (encs (p.right.map code) ++ r))
  have n2 := Wr.num_enc p.right.length 8 (by omega) h3 (encs (p.right.map code) ++ r)
  have n3 := many_encs (p.right.map code) 47 (fun n hn => by
    obtain ⟨s, hs, rfl⟩ := List.mem_map.1 hn
    obtain ⟨q1, q2, q3⟩ := h4 s hs
    unfold code
    cases hb : s.non with
    | true => have := q2 hb; simp only [if_true]; omega
    | false => have := q3 hb; simp only [Bool.false_eq_true, if_false]; omega) (by decide) r
  rw [List.length_map] at n3
  unfold rdPr
  rw [e1, n1]
  simp only [n2, n3, List.map_map]
  have e2 : p.right.map (sym ∘ code) = p.right := by
    exact (List.map_congr_left (f := sym ∘ code) (g := id) fun s hs => sym_code s (h4 s hs).1).trans (List.map_id _)
  rw [e2, Int.toNat_of_nonneg h1]
theorem rdPrs_back (g : Gm) (hg : g.nons ≤ 24) (ht : g.terms ≤ 16) : ∀ (l : List Pr) (_ : ∀ p ∈ l, okPr g p) (r : List Nat), rdPrs l.length ⟨encs (l.flatMap prNums) ++ r, 0⟩ = (l, ⟨r, 0⟩)
  | [], _, _ => rfl
  | p :: l, h, r => by
    have e := rdPr_back g hg ht p (h p (by simp)) (encs (l.flatMap prNums) ++ r)
    have ih := rdPrs_back g hg ht l (fun q hq => h q (by simp [hq])) r
    simp only [List.length_cons, rdPrs, List.flatMap_cons, encs_append, List.append_assoc, e, ih]
/-- Productions that were read without fault stood there. -/
theorem rdPr_zero {s : Wr.St} (h : (rdPr s).2.e = 0) : s.e = 0 := num_zero (num_zero (many_zero _ h))
theorem rdPr_inv {l : List Nat} (hb : ∀ c ∈ l, c < 256) (h : (rdPr ⟨l, 0⟩).2.e = 0) :
    ∃ r, l = encs (prNums (rdPr ⟨l, 0⟩).1) ++ r ∧ (rdPr ⟨l, 0⟩).2 = ⟨r, 0⟩ ∧ ∀ c ∈ r, c < 256 := by
  have h2 : (Wr.num (Wr.num ⟨l, 0⟩ 23).2 8).2.e = 0 := many_zero _ h
  have h1 : (Wr.num ⟨l, 0⟩ 23).2.e = 0 := num_zero h2
  obtain ⟨r1, e1, f1, b1⟩ := num_inv hb h1
  rw [f1] at h2
  obtain ⟨r2, e2, f2, b2⟩ := num_inv b1 h2
  have h3 : (Wr.many (Wr.num ⟨r1, 0⟩ 8).1 ⟨r2, 0⟩ 47).2.e = 0 := by
    have h := h
    unfold rdPr at h
    simp only [f1, f2] at h
    exact h
  obtain ⟨r3, e3, f3, b3⟩ := many_inv _ b2 h3
  refine ⟨r3, ?_, ?_, b3⟩
  · unfold rdPr prNums
    simp only [f1, f2, encs_cons, List.map_map, List.length_map, Wr.many_len]
    have ec : (Wr.many (Wr.num ⟨r1, 0⟩ 8).1 ⟨r2, 0⟩ 47).1.map (code ∘ sym) = (Wr.many (Wr.num ⟨r1, 0⟩ 8).1 ⟨r2, 0⟩ 47).1 := by
      exact (List.map_congr_left (f := code ∘ sym) (g := id) fun n _ => code_sym n).trans (List.map_id _)
    rw [ec, Int.toNat_natCast, List.append_assoc, List.append_assoc, ← e3, ← e2, ← e1]
  · unfold rdPr
    simp only [f1, f2]
    exact f3
theorem rdPrs_zero : ∀ (k : Nat) {s : Wr.St}, (rdPrs k s).2.e = 0 → s.e = 0
  | 0, _, h => h
  | k + 1, _, h => rdPr_zero (rdPrs_zero k h)
theorem rdPrs_len : ∀ (k : Nat) (s : Wr.St), (rdPrs k s).1.length = k
  | 0, _ => rfl
  | k + 1, s => by simp only [rdPrs, List.length_cons, rdPrs_len k]
theorem rdPrs_inv : ∀ (k : Nat) {l : List Nat} (_ : ∀ c ∈ l, c < 256), (rdPrs k ⟨l, 0⟩).2.e = 0 →
    ∃ r, l = encs ((rdPrs k ⟨l, 0⟩).1.flatMap prNums) ++ r ∧ (rdPrs k ⟨l, 0⟩).2 = ⟨r, 0⟩ ∧ ∀ c ∈ r, c < 256
  | 0, l, hb, _ => ⟨l, rfl, rfl, hb⟩
  | k + 1, l, hb, h => by
    have h0 : (rdPr ⟨l, 0⟩).2.e = 0 := rdPrs_zero k h
    obtain ⟨r, e1, e2, hr⟩ := rdPr_inv hb h0
    have h' : (rdPrs k ⟨r, 0⟩).2.e = 0 := by
      have h : (rdPrs k (rdPr ⟨l, 0⟩).2).2.e = 0 := h
      rw [e2] at h; exact h
    obtain ⟨r', e3, e4, hr'⟩ := rdPrs_inv k hr h'
    refine ⟨r', ?_, ?_, hr'⟩
    · show l = encs (((rdPr ⟨l, 0⟩).1 :: (rdPrs k (rdPr ⟨l, 0⟩).2).1).flatMap prNums) ++ r'
      rw [List.flatMap_cons, encs_append, e2, List.append_assoc, ← e3, ← e1]
    · show (rdPrs k (rdPr ⟨l, 0⟩).2).2 = _
      rw [e2]; exact e4

/-- A grammar's numbers, as they are read: what is left behind the first four, and the grammar. -/
def st1 (l : List Nat) : Wr.St := (Wr.num ⟨l, 0⟩ 16).2
def st2 (l : List Nat) : Wr.St := (Wr.num (st1 l) 24).2
def st3 (l : List Nat) : Wr.St := (Wr.num (st2 l) 23).2
def st4 (l : List Nat) : Wr.St := (Wr.num (st3 l) 60).2
def rdGm (l : List Nat) : Gm × Wr.St :=
  (⟨((Wr.num ⟨l, 0⟩ 16).1 : Int), ((Wr.num (st1 l) 24).1 : Int), ((Wr.num (st2 l) 23).1 : Int), (rdPrs (Wr.num (st3 l) 60).1 (st4 l)).1⟩, (rdPrs (Wr.num (st3 l) 60).1 (st4 l)).2)
/-- A grammar is read as it was written, whatever stands behind. -/
theorem rdGm_back (g : Gm) (h : Ok g) (r : List Nat) : rdGm (gmBytes g ++ r) = (g, ⟨r, 0⟩) := by
  obtain ⟨h1, h2, h3, h4, h5, h6, h7, h8⟩ := h
  have e : gmBytes g ++ r = Vy.enc g.terms.toNat ++ (Vy.enc g.nons.toNat ++ (Vy.enc g.start.toNat ++ (Vy.enc g.prods.length ++ (encs (g.prods.flatMap prNums) ++ r)))) := by
    simp [gmBytes, gmNums, encs_cons]
  have n1 := Wr.num_enc g.terms.toNat 16 (by omega) (by omega) (Vy.enc g.nons.toNat ++ (Vy.enc g.start.toNat ++ (Vy.enc g.prods.length ++ (encs (g.prods.flatMap prNums) ++ r))))
  have n2 := Wr.num_enc g.nons.toNat 24 (by omega) (by omega) (Vy.enc g.start.toNat ++ (Vy.enc g.prods.length ++ (encs (g.prods.flatMap prNums) ++ r)))
  have n3 := Wr.num_enc g.start.toNat 23 (by omega) (by omega) (Vy.enc g.prods.length ++ (encs (g.prods.flatMap prNums) ++ r))
  have n4 := Wr.num_enc g.prods.length 60 (by omega) h7 (encs (g.prods.flatMap prNums) ++ r)
  have n5 := rdPrs_back g h4 h2 g.prods h8 r
  rw [e]
  simp only [rdGm, st4, st3, st2, st1, n1, n2, n3, n4, n5]
  rw [Int.toNat_of_nonneg h1, Int.toNat_of_nonneg h5, Int.toNat_of_nonneg (by omega : 0 ≤ g.nons)]
/-- Bytes of which a grammar was read, to their end and without fault, are its bytes. -/
theorem rdGm_inv {l : List Nat} (hb : ∀ c ∈ l, c < 256) (h : (rdGm l).2 = ⟨[], 0⟩) : l = gmBytes (rdGm l).1 := by
  have h5 : (rdPrs (Wr.num (st3 l) 60).1 (st4 l)).2.e = 0 := by
    have h' : (rdPrs (Wr.num (st3 l) 60).1 (st4 l)).2 = ⟨[], 0⟩ := h
    rw [h']
  have h4 : (Wr.num (st3 l) 60).2.e = 0 := rdPrs_zero _ h5
  have h3 : (Wr.num (st2 l) 23).2.e = 0 := num_zero h4
  have h2 : (Wr.num (st1 l) 24).2.e = 0 := num_zero h3
  have h1 : (Wr.num ⟨l, 0⟩ 16).2.e = 0 := num_zero h2
  obtain ⟨r1, e1, f1, b1⟩ := num_inv hb h1
  have s1 : st1 l = ⟨r1, 0⟩ := f1
  rw [s1] at h2
  obtain ⟨r2, e2, f2, b2⟩ := num_inv b1 h2
  have s2 : st2 l = ⟨r2, 0⟩ := by unfold st2; rw [s1]; exact f2
  rw [s2] at h3
  obtain ⟨r3, e3, f3, b3⟩ := num_inv b2 h3
  have s3 : st3 l = ⟨r3, 0⟩ := by unfold st3; rw [s2]; exact f3
  rw [s3] at h4
  obtain ⟨r4, e4, f4, b4⟩ := num_inv b3 h4
  have s4 : st4 l = ⟨r4, 0⟩ := by unfold st4; rw [s3]; exact f4
  rw [s3, s4] at h5
  obtain ⟨r5, e5, f5, _⟩ := rdPrs_inv _ b4 h5
  have h' : (rdPrs (Wr.num (st3 l) 60).1 (st4 l)).2 = ⟨[], 0⟩ := h
  rw [s3, s4, f5] at h'
  have hr5 : r5 = [] := by injection h'
  subst hr5
  rw [List.append_nil] at e5
  have e : gmBytes (rdGm l).1 = Vy.enc (Wr.num ⟨l, 0⟩ 16).1 ++ (Vy.enc (Wr.num ⟨r1, 0⟩ 24).1 ++ (Vy.enc (Wr.num ⟨r2, 0⟩ 23).1 ++ (Vy.enc (Wr.num ⟨r3, 0⟩ 60).1 ++ encs ((rdPrs (Wr.num ⟨r3, 0⟩ 60).1 ⟨r4, 0⟩).1.flatMap prNums)))) := by
    simp only [gmBytes, gmNums, rdGm, s1, s2, s3, s4, encs_cons, Int.toNat_natCast, rdPrs_len]
  rw [e, ← e5, ← e4, ← e3, ← e2, ← e1]
/-- Unlike grammars have unlike bytes. -/
theorem gmBytes_inj {g h : Gm} (hg : Ok g) (hh : Ok h) (e : gmBytes g = gmBytes h) : g = h := by
  have a := rdGm_back g hg []
  have b := rdGm_back h hh []
  rw [e, b] at a
  injection a with a _
  exact a.symm
end Go.Proofs.Ytgmnokmchjeflaa.Gr
