/- How a derivation is played, step by step, as a loop does it; and its nodes, one behind the other. Plain facts; no program is named here. -/
import Derived.Test.YtmdepbgcgkifpaaAMath
namespace Go.Proofs.Ytmdepbgcgkifpaa.Dv
open Gr (Sy Pr Gm okSy okPr Ok)
open Cf (Cm)

/-- A word ahead of what comes of the rest. -/
def pre (u : List Int) (x : List Int × Nat) : List Int × Nat := if x.2 = 0 then (u ++ x.1, 0) else ([], x.2)
theorem play_code {ps : List Pr} : ∀ (l : List Int) (row : List Sy), (play ps l row).2 ≠ 0 → (play ps l row).1 = []
  | [], row, h => by
    unfold play at h ⊢
    cases e : rest row with
    | nil => rw [e] at h; exact absurd rfl h
    | cons s r => rfl
  | i :: l, row, h => by
    unfold play at h ⊢
    cases e : rest row with
    | nil => rfl
    | cons s r =>
      rw [e] at h
      dsimp only at h ⊢
      cases e2 : (if 0 ≤ i then ps[i.toNat]? else none) with
      | none => rfl
      | some p =>
        rw [e2] at h
        dsimp only at h ⊢
        split
        · rename_i h1
          rw [if_pos h1] at h
          split
          · rename_i h2
            rw [if_pos h2] at h
            exact absurd rfl h
          · rfl
        · rfl
theorem pre_nil {x : List Int × Nat} (h : x.2 ≠ 0 → x.1 = []) : pre [] x = x := by
  unfold pre
  obtain ⟨v, c⟩ := x
  split
  · rename_i h1
    have h1 : c = 0 := h1
    subst h1; rfl
  · rename_i h1
    have h := h h1
    have h : v = [] := h
    rw [h]
theorem pre_pre (u v : List Int) (x : List Int × Nat) : pre u (pre v x) = pre (u ++ v) x := by
  unfold pre
  obtain ⟨y, c⟩ := x
  by_cases h : c = 0
  · subst h; simp
  · rw [if_neg h, if_neg h, if_neg h]
theorem pre_ok (u v : List Int) : pre u (v, 0) = (u ++ v, 0) := rfl
theorem pre_bad (u v : List Int) {c : Nat} (h : c ≠ 0) : pre u (v, c) = ([], c) := by unfold pre; rw [if_neg h]
section
variable {ps : List Pr} {s : Sy} {row : List Sy} {i : Int} {l : List Int}
theorem rest_non (h : s.non = true) : rest (s :: row) = s :: row := by unfold rest; rw [if_pos h]
theorem toks_non (h : s.non = true) : toks (s :: row) = [] := by unfold toks; rw [if_pos h]
theorem rest_tok (h : s.non = false) : rest (s :: row) = rest row := by conv => lhs; unfold rest; rw [if_neg (by rw [h]; decide)]
theorem toks_tok (h : s.non = false) : toks (s :: row) = s.n :: toks row := by conv => lhs; unfold toks; rw [if_neg (by rw [h]; decide)]
theorem play_tok (h : s.non = false) (l : List Int) : play ps l (s :: row) = pre [s.n] (play ps l row) := by
  cases l with
  | nil =>
    unfold play
    rw [rest_tok h, toks_tok h]
    cases e : rest row with
    | nil => rfl
    | cons x r => rfl
  | cons i l =>
    unfold play
    rw [rest_tok h, toks_tok h]
    cases e : rest row with
    | nil => rfl
    | cons x r =>
      dsimp only
      cases e2 : (if 0 ≤ i then ps[i.toNat]? else none) with
      | none => rfl
      | some p =>
        dsimp only
        by_cases h1 : p.left = x.n
        · rw [if_pos h1, if_pos h1]
          by_cases h2 : (play ps l (p.right ++ r)).2 = 0
          · rw [if_pos h2, if_pos h2]; rfl
          · rw [if_neg h2, if_neg h2, pre_bad _ _ h2]
        · rw [if_neg h1, if_neg h1]; rfl
theorem play_end : play ps [] [] = ([], 0) := rfl
theorem play_short (h : s.non = true) : play ps [] (s :: row) = ([], 3) := by unfold play; rw [rest_non h]
theorem play_empty (i : Int) (l : List Int) : play ps (i :: l) [] = ([], 2) := rfl
theorem play_bad (h : s.non = true) (hb : ¬ (0 ≤ i ∧ ∃ p, ps[i.toNat]? = some p ∧ p.left = s.n)) : play ps (i :: l) (s :: row) = ([], 2) := by
  unfold play
  rw [rest_non h]
  dsimp only
  cases e2 : (if 0 ≤ i then ps[i.toNat]? else none) with
  | none => rfl
  | some p =>
    dsimp only
    rw [if_neg]
    intro h1
    by_cases h0 : 0 ≤ i
    · rw [if_pos h0] at e2; exact hb ⟨h0, p, e2, h1⟩
    · rw [if_neg h0] at e2; cases e2
theorem play_step (h : s.non = true) {k : Nat} {p : Pr} (hp : ps[k]? = some p) (hl : p.left = s.n) : play ps ((k : Int) :: l) (s :: row) = play ps l (p.right ++ row) := by
  conv => lhs; unfold play
  rw [rest_non h]
  dsimp only
  rw [if_pos (Int.natCast_nonneg k), Int.toNat_natCast, hp]
  dsimp only
  rw [if_pos hl, toks_non h]
  split
  · rename_i h1
    rw [List.nil_append]
    exact Prod.ext rfl h1.symm
  · rename_i h1
    exact Prod.ext (play_code _ _ h1).symm rfl
theorem play_le : ∀ {l : List Int} {row : List Sy}, (play ps l row).2 ≤ 3
  | [], row => by
    unfold play
    cases e : rest row with
    | nil => exact Nat.zero_le _
    | cons s r => exact Nat.le_refl _
  | i :: l, row => by
    unfold play
    cases e : rest row with
    | nil => show 2 ≤ 3; decide
    | cons s r =>
      dsimp only
      cases e2 : (if 0 ≤ i then ps[i.toNat]? else none) with
      | none => show 2 ≤ 3; decide
      | some p =>
        dsimp only
        split
        · split
          · exact Nat.zero_le _
          · exact play_le
        · show 2 ≤ 3; decide
end
/-- What Replay tells: the word, or why there is none. -/
def replayOf (okg : Bool) (g : Gm) (l : List Int) : List Int × Nat :=
  if okg then (if 2000 < l.length then ([], 5) else play g.prods l [⟨true, g.start⟩]) else ([], 1)
theorem replay_arg (g : Gm) (l : List Int) : replayOf false g l = ([], 1) := rfl
theorem replay_big {g : Gm} {l : List Int} (h : 2000 < l.length) : replayOf true g l = ([], 5) := by unfold replayOf; rw [if_pos rfl, if_pos h]
theorem replay_play {g : Gm} {l : List Int} (h : l.length ≤ 2000) : replayOf true g l = play g.prods l [⟨true, g.start⟩] := by unfold replayOf; rw [if_pos rfl, if_neg (by omega)]
theorem replay_ok {okg : Bool} {g : Gm} {l : List Int} (h : (replayOf okg g l).2 = 0) : okg = true ∧ l.length ≤ 2000 ∧ ∃ m : List Nat, l = ints m ∧ Dr g.prods m [⟨true, g.start⟩] (replayOf okg g l).1 := by
  cases okg with
  | false => exact absurd h (by show ¬ (1 : Nat) = 0; decide)
  | true =>
    rcases Nat.lt_or_ge 2000 l.length with h1 | h1
    · rw [replay_big h1] at h; exact absurd h (by show ¬ (5 : Nat) = 0; decide)
    · rw [replay_play h1] at h ⊢
      refine ⟨rfl, h1, ?_⟩
      obtain ⟨m, hm, hd⟩ := (play_dr (ps := g.prods) (l := l) (row := [⟨true, g.start⟩]) (w := (play g.prods l [⟨true, g.start⟩]).1)).mp (Prod.ext rfl h)
      exact ⟨m, hm, hd⟩
theorem replay_le {okg : Bool} {g : Gm} {l : List Int} : (replayOf okg g l).2 ≤ 5 := by
  cases okg with
  | false => show 1 ≤ 5; decide
  | true =>
    rcases Nat.lt_or_ge 2000 l.length with h1 | h1
    · rw [replay_big h1]; exact Nat.le_refl _
    · rw [replay_play h1]
      have := play_le (ps := g.prods) (l := l) (row := [⟨true, g.start⟩])
      omega
theorem replay_none {okg : Bool} {g : Gm} {l : List Int} (h : (replayOf okg g l).2 ≠ 0) : (replayOf okg g l).1 = [] := by
  cases okg with
  | false => rfl
  | true =>
    rcases Nat.lt_or_ge 2000 l.length with h1 | h1
    · rw [replay_big h1]
    · rw [replay_play h1] at h ⊢
      exact play_code _ _ h
end Go.Proofs.Ytmdepbgcgkifpaa.Dv
