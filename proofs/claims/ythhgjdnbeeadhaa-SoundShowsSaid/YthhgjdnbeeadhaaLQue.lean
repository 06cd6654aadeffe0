/- How ways at the left are gone on with, shorter ones first: what is left to be gone on with, and what has been; when nothing is left, there is no way back. Plain facts; no program is named here. -/
import Derived.Test.YthhgjdnbeeadhaaMathA
namespace Go.Proofs.Ythhgjdnbeeadhaa.Lf
open Gr (Sy Pr Gm okSy okPr Ok)

/-- Where steps from a lead. -/
def fin (ps : List Pr) (a : Nat) (l : List Stp) : Nat := match l.getLast? with
  | none => a
  | some x => to ps x
section
variable {ps : List Pr} {nl : Nat → Bool} {a b : Nat} {l : List Stp}
theorem fin_nil : fin ps a [] = a := rfl
theorem fin_snoc (x : Stp) : fin ps a (l ++ [x]) = to ps x := by unfold fin; rw [List.getLast?_concat]
theorem fin_at (h : 0 < l.length) : fin ps a l = to ps l[l.length - 1] := by
  unfold fin
  rw [List.getLast?_eq_getElem?, List.getElem?_eq_getElem (by omega)]
theorem way_snoc : ∀ {l : List Stp} {a b : Nat} {x : Stp}, Way ps nl a l b → isStep ps nl x = true → frm ps x = b → Way ps nl a (l ++ [x]) (to ps x)
  | [], a, b, x, h, h1, h2 => ⟨h1, by rw [h2]; exact h.symm, rfl⟩
  | y :: l, a, b, x, h, h1, h2 => ⟨h.1, h.2.1, way_snoc h.2.2 h1 h2⟩
theorem way_steps : ∀ {l : List Stp} {a b : Nat}, Way ps nl a l b → ∀ x ∈ l, isStep ps nl x = true
  | [], _, _, _, _, hx => absurd hx (by simp)
  | y :: l, a, b, h, x, hx => by
    rcases List.mem_cons.1 hx with rfl | hx
    · exact h.1
    · exact way_steps h.2.2 x hx
theorem way_frm : ∀ {l : List Stp} {a b : Nat}, Way ps nl a l b → ∀ (i : Nat) (hi : i < l.length), frm ps l[i] = fin ps a (l.take i)
  | [], _, _, _, i, hi => absurd hi (by simp)
  | y :: l, a, b, h, 0, hi => h.2.1
  | y :: l, a, b, h, i + 1, hi => by
    have hi2 : i < l.length := by simpa using hi
    have ih := way_frm h.2.2 i hi2
    show frm ps l[i] = fin ps a (y :: l.take i)
    rw [ih]
    unfold fin
    cases e : (l.take i).getLast? with
    | none =>
      have : l.take i = [] := List.getLast?_eq_none_iff.1 e
      rw [this]; rfl
    | some x => rw [List.getLast?_cons, e]; rfl
theorem way_fin : ∀ {l : List Stp} {a b : Nat}, Way ps nl a l b → fin ps a l = b
  | [], _, _, h => h
  | y :: l, a, b, h => by
    have ih := way_fin h.2.2
    rw [← ih]
    unfold fin
    rw [List.getLast?_cons]
    cases l.getLast? <;> rfl
theorem fin_take_succ {i : Nat} (hi : i < l.length) : fin ps a (l.take (i + 1)) = to ps l[i] := by
  rw [List.take_succ_eq_append_getElem hi, fin_snoc]
end

/-- Steps of which all lead to what has been met, and none back. -/
def Met (ps : List Pr) (non : Nat) (been : Nat → Bool) (x : Stp) : Prop := to ps x ≠ non ∧ been (to ps x) = true
/-- What is to be gone on with, and what has been met; of one nonterminal (but) it is not asked. -/
structure Bfs (ps : List Pr) (nl : Nat → Bool) (non : Nat) (but : Option Nat) (Q : List (List Stp)) (been : Nat → Bool) : Prop where
  ways : ∀ l ∈ Q, Way ps nl non l (fin ps non l)
  shut : ∀ m, m = non ∨ been m = true → (some m = but ∨ (∃ l ∈ Q, fin ps non l = m) ∨ ∀ x, isStep ps nl x = true → frm ps x = m → Met ps non been x)
section
variable {ps : List Pr} {nl : Nat → Bool} {non : Nat} {but : Option Nat} {Q : List (List Stp)} {been : Nat → Bool}
theorem Bfs.begin_ : Bfs ps nl non none [[]] (fun _ => false) :=
  ⟨fun l hl => by rw [List.mem_singleton.1 hl]; exact rfl, fun m hm => by
    rcases hm with rfl | hm
    · exact .inr (.inl ⟨[], by simp, rfl⟩)
    · cases hm⟩
/-- The first one is taken. -/
theorem Bfs.pop {l : List Stp} (h : Bfs ps nl non none (l :: Q) been) : Bfs ps nl non (some (fin ps non l)) Q been ∧ Way ps nl non l (fin ps non l) :=
  ⟨⟨fun x hx => h.ways x (List.mem_cons_of_mem _ hx), fun m hm => by
    rcases h.shut m hm with h1 | ⟨x, hx, he⟩ | h1
    · cases h1
    · rcases List.mem_cons.1 hx with rfl | hx
      · exact .inl (by rw [he])
      · exact .inr (.inl ⟨x, hx, he⟩)
    · exact .inr (.inr h1)⟩, h.ways l (by simp)⟩
/-- A step that leads to one that hasn't been met. -/
theorem Bfs.push {l : List Stp} {x : Stp} {been' : Nat → Bool} (h : Bfs ps nl non but Q been) (hw : Way ps nl non (l ++ [x]) (to ps x)) (hb : ∀ m, been' m = (been m || decide (m = to ps x))) : Bfs ps nl non but (Q ++ [l ++ [x]]) been' :=
  ⟨fun y hy => by
    rcases List.mem_append.1 hy with hy | hy
    · exact h.ways y hy
    · rw [List.mem_singleton.1 hy, fin_snoc]; exact hw, fun m hm => by
    have hmet : ∀ y, Met ps non been y → Met ps non been' y := fun y hy => ⟨hy.1, by rw [hb, hy.2]; rfl⟩
    by_cases e : m = to ps x
    · exact .inr (.inl ⟨l ++ [x], by simp, by rw [fin_snoc]; exact e.symm⟩)
    · have hm' : m = non ∨ been m = true := by
        rcases hm with h1 | h1
        · exact .inl h1
        · right
          rw [hb, decide_eq_false e, Bool.or_false] at h1
          exact h1
      rcases h.shut m hm' with h1 | ⟨y, hy, he⟩ | h1
      · exact .inl h1
      · exact .inr (.inl ⟨y, List.mem_append_left _ hy, he⟩)
      · exact .inr (.inr fun y h2 h3 => hmet y (h1 y h2 h3))⟩
/-- All its steps have been looked at. -/
theorem Bfs.close {m0 : Nat} (h : Bfs ps nl non (some m0) Q been) (hm : ∀ x, isStep ps nl x = true → frm ps x = m0 → Met ps non been x) : Bfs ps nl non none Q been :=
  ⟨h.ways, fun m h1 => by
    rcases h.shut m h1 with h2 | h2
    · injection h2 with h2
      subst h2
      exact .inr (.inr hm)
    · exact .inr h2⟩
theorem Bfs.far (h : Bfs ps nl non none [] been) : ∀ {l : List Stp} {m b : Nat}, (m = non ∨ been m = true) → l ≠ [] → Way ps nl m l b → b ≠ non
  | [], _, _, _, h2, _ => absurd rfl h2
  | x :: l, m, b, hm, _, hw => by
    have hx : Met ps non been x := by
      rcases h.shut m hm with h1 | ⟨y, hy, _⟩ | h1
      · cases h1
      · exact absurd hy (by simp)
      · exact h1 x hw.1 hw.2.1
    cases l with
    | nil => have e : to ps x = b := hw.2.2; rw [← e]; exact hx.1
    | cons y r => exact h.far (.inr hx.2) (by simp) hw.2.2
/-- Nothing is left: no way leads back. -/
theorem Bfs.none_left (h : Bfs ps nl non none [] been) : ¬ LeftRec ps nl non := fun ⟨_, h1, h2⟩ => h.far (.inl rfl) h1 h2 rfl
end
/-- How many have not been met. -/
def unmet (N : Nat) (been : Nat → Bool) : Nat := Rk.cnt N fun n => !been n
theorem unmet_le (N : Nat) (been : Nat → Bool) : unmet N been ≤ N := Rk.cnt_le N _
theorem unmet_lt {N m : Nat} {been been' : Nat → Bool} (hm : m < N) (h : been m = false) (hb : ∀ n, been' n = (been n || decide (n = m))) : unmet N been' < unmet N been := by
  refine Rk.cnt_lt N ?_ m hm ?_ ?_
  · intro n _ hn
    rw [hb] at hn
    cases e : been n with
    | true => rw [e] at hn; cases hn
    | false => rfl
  · rw [hb, decide_eq_true rfl, Bool.or_true]; rfl
  · rw [h]; rfl
/-- What has been met, as a number. -/
theorem bit_or (z k m : Nat) : (z ||| 2 ^ k).testBit m = (z.testBit m || decide (m = k)) := by
  rw [Nat.testBit_or, Nat.testBit_two_pow]
  congr 1
  exact decide_eq_decide.2 ⟨fun h => h.symm, fun h => h.symm⟩
theorem bit_lt {z k : Nat} (hz : z < 4294967296) (hk : k < 32) : z ||| 2 ^ k < 4294967296 :=
  Nat.or_lt_two_pow (n := 32) hz (Nat.pow_lt_pow_right (by decide) hk)
theorem bit_shift (z k : Nat) : z / 2 ^ k % 2 = (z.testBit k).toNat := by
  rw [Nat.testBit_eq_decide_div_mod_eq]
  rcases Nat.mod_two_eq_zero_or_one (z / 2 ^ k) with h | h <;> rw [h] <;> rfl
end Go.Proofs.Ythhgjdnbeeadhaa.Lf
