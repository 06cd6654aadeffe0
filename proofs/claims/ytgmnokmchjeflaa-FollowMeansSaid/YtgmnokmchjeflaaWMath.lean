/- Plain facts on things that are written and read, one behind the other. No program is named here. -/
import Derived.Test.YtgmnokmchjeflaaVMath
namespace Go.Proofs.Ytgmnokmchjeflaa.Wr

/-- What a reader holds: the bytes that are left, and what went wrong. -/
structure St where
  l : List Nat
  e : Int

/-- Bytes are bytes; where something went wrong nothing is left. -/
def St.ok (s : St) : Prop := (∀ c ∈ s.l, c < 256) ∧ (s.e ≠ 0 → s.l = [])
/-- Something goes wrong. -/
def bad (s : St) (x : Int) : St := if x = 0 ∨ s.e ≠ 0 then s else ⟨[], x⟩
/-- The next number. -/
def num (s : St) (most : Nat) : Nat × St :=
  if s.e ≠ 0 then (0, s)
  else if (Vy.dec s.l).2.2 ≠ 0 then (0, ⟨[], ((Vy.dec s.l).2.2 : Nat)⟩)
  else if most < (Vy.dec s.l).1 then (0, ⟨[], 5⟩)
  else ((Vy.dec s.l).1, ⟨s.l.drop (Vy.dec s.l).2.1, 0⟩)
/-- So many numbers. -/
def many : Nat → St → Nat → List Nat × St
  | 0, s, _ => ([], s)
  | k + 1, s, most => ((num s most).1 :: (many k (num s most).2 most).1, (many k (num s most).2 most).2)
/-- A list of numbers. -/
def nums (s : St) (mn most : Nat) : List Nat × St :=
  (if (many (num s mn).1 (num s mn).2 most).2.e = 0 then (many (num s mn).1 (num s mn).2 most).1 else [], (many (num s mn).1 (num s mn).2 most).2)
/-- What is told at the end. -/
def fin (s : St) : Int := if 0 < s.l.length then 4 else s.e

theorem bad_ok {s : St} (h : s.ok) (x : Int) : (bad s x).ok := by
  unfold bad; split
  · exact h
  · exact ⟨by simp, fun _ => rfl⟩
theorem num_ok {s : St} (h : s.ok) (most : Nat) : (num s most).2.ok := by
  unfold num
  by_cases h0 : s.e ≠ 0
  · rw [if_pos h0]; exact h
  · rw [if_neg h0]
    by_cases h1 : (Vy.dec s.l).2.2 ≠ 0
    · rw [if_pos h1]; exact ⟨by simp, fun _ => rfl⟩
    · rw [if_neg h1]
      by_cases h2 : most < (Vy.dec s.l).1
      · rw [if_pos h2]; exact ⟨by simp, fun _ => rfl⟩
      · rw [if_neg h2]; exact ⟨fun c hc => h.1 c (List.mem_of_mem_drop hc), fun h => absurd rfl h⟩
theorem num_le (s : St) (most : Nat) : (num s most).1 ≤ most := by
  unfold num
  by_cases h0 : s.e ≠ 0
  · rw [if_pos h0]; exact Nat.zero_le _
  · rw [if_neg h0]
    by_cases h1 : (Vy.dec s.l).2.2 ≠ 0
    · rw [if_pos h1]; exact Nat.zero_le _
    · rw [if_neg h1]
      by_cases h2 : most < (Vy.dec s.l).1
      · rw [if_pos h2]; exact Nat.zero_le _
      · rw [if_neg h2]; exact Nat.le_of_not_lt h2
theorem num_bad {s : St} (h : s.e ≠ 0) (most : Nat) : num s most = (0, s) := by unfold num; rw [if_pos h]
theorem num_err {s : St} (h0 : s.e = 0) (h : (Vy.dec s.l).2.2 ≠ 0) (most : Nat) : num s most = (0, ⟨[], ((Vy.dec s.l).2.2 : Nat)⟩) := by
  unfold num; rw [if_neg (by simpa using h0), if_pos h]
theorem num_big {s : St} (h0 : s.e = 0) (h : (Vy.dec s.l).2.2 = 0) {most : Nat} (hm : most < (Vy.dec s.l).1) : num s most = (0, ⟨[], 5⟩) := by
  unfold num; rw [if_neg (by simpa using h0), if_neg (by simpa using h), if_pos hm]
theorem num_fine {s : St} (h0 : s.e = 0) (h : (Vy.dec s.l).2.2 = 0) {most : Nat} (hm : (Vy.dec s.l).1 ≤ most) : num s most = ((Vy.dec s.l).1, ⟨s.l.drop (Vy.dec s.l).2.1, 0⟩) := by
  unfold num; rw [if_neg (by simpa using h0), if_neg (by simpa using h), if_neg (by omega)]
theorem num_wrong {s : St} {most : Nat} (h : (num s most).2.e ≠ 0) : (num s most).1 = 0 := by
  unfold num at h ⊢
  by_cases h0 : s.e ≠ 0
  · rw [if_pos h0]
  · rw [if_neg h0] at h ⊢
    by_cases h1 : (Vy.dec s.l).2.2 ≠ 0
    · rw [if_pos h1]
    · rw [if_neg h1] at h ⊢
      by_cases h2 : most < (Vy.dec s.l).1
      · rw [if_pos h2]
      · rw [if_neg h2] at h; exact absurd rfl h

theorem many_ok : ∀ (k : Nat) {s : St} (_ : s.ok) (most : Nat), (many k s most).2.ok
  | 0, _, h, _ => h
  | k + 1, _, h, most => many_ok k (num_ok h most) most
theorem many_len : ∀ (k : Nat) (s : St) (most : Nat), (many k s most).1.length = k
  | 0, _, _ => rfl
  | k + 1, s, most => by simp only [many, List.length_cons, many_len k]
theorem many_snoc : ∀ (k : Nat) (s : St) (most : Nat), many (k + 1) s most = ((many k s most).1 ++ [(num (many k s most).2 most).1], (num (many k s most).2 most).2)
  | 0, _, _ => rfl
  | k + 1, s, most => by
    have ih := many_snoc k (num s most).2 most
    rw [many, ih]
    rfl
theorem many_bad : ∀ (k : Nat) {s : St} (_ : s.e ≠ 0) (most : Nat), (many k s most).2 = s
  | 0, _, _, _ => rfl
  | k + 1, s, h, most => by
    show (many k (num s most).2 most).2 = s
    rw [num_bad h]
    exact many_bad k h most
theorem many_add : ∀ (k j : Nat) (s : St) (most : Nat), (many (k + j) s most).2 = (many j (many k s most).2 most).2
  | 0, j, s, most => by rw [Nat.zero_add]; rfl
  | k + 1, j, s, most => by
    rw [Nat.add_right_comm]
    exact many_add k j (num s most).2 most
/-- Once something went wrong it stays. -/
theorem many_stays {k n : Nat} (hk : k ≤ n) {s : St} {most : Nat} (h : (many k s most).2.e ≠ 0) : (many n s most).2 = (many k s most).2 := by
  obtain ⟨j, rfl⟩ := Nat.le.dest hk
  rw [many_add, many_bad j h]
theorem nums_ok {s : St} (h : s.ok) (mn most : Nat) : (nums s mn most).2.ok := many_ok _ (num_ok h mn) most
theorem nums_len (s : St) (mn most : Nat) : (nums s mn most).1.length ≤ mn := by
  unfold nums; split
  · rw [many_len]; exact num_le s mn
  · exact Nat.zero_le _
/-- The end of a list that is read to its end. -/
theorem nums_done {s : St} {mn most : Nat} (h : (many (num s mn).1 (num s mn).2 most).2.e = 0) : nums s mn most = many (num s mn).1 (num s mn).2 most := by
  unfold nums; rw [if_pos h]
theorem nums_wrong {s : St} {mn most k : Nat} (hk : k ≤ (num s mn).1) (h : (many k (num s mn).2 most).2.e ≠ 0) : nums s mn most = ([], (many k (num s mn).2 most).2) := by
  unfold nums
  rw [many_stays hk h, if_neg h]
/-- A list at whose head something went wrong. -/
theorem nums_none {s : St} {mn most : Nat} (h : (num s mn).2.e ≠ 0) : nums s mn most = ([], (num s mn).2) := by
  exact nums_wrong (k := 0) (Nat.zero_le _) h

/-! What is written. -/
/-- The bytes of a list. -/
def wnums (l : List Int) : List Nat := Vy.enc l.length ++ l.flatMap fun n => Vy.enc n.toNat
/-- The bytes of a bool. -/
def wbool (b : Bool) : List Nat := [if b then 1 else 0]
theorem enc_one : Vy.enc 1 = [1] := by decide
theorem enc_zero : Vy.enc 0 = [0] := by decide

/-- A number is read as it was written. -/
theorem num_enc (n most : Nat) (hn : n < 18446744073709551616) (hm : n ≤ most) (r : List Nat) : num ⟨Vy.enc n ++ r, 0⟩ most = (n, ⟨r, 0⟩) := by
  have h := Vy.dec_enc n hn r
  rw [num_fine rfl (by show (Vy.dec (Vy.enc n ++ r)).2.2 = 0; rw [h]) (by show (Vy.dec (Vy.enc n ++ r)).1 ≤ most; rw [h]; exact hm)]
  show ((Vy.dec (Vy.enc n ++ r)).1, (⟨(Vy.enc n ++ r).drop (Vy.dec (Vy.enc n ++ r)).2.1, 0⟩ : St)) = _
  rw [h]
  simp
theorem many_enc : ∀ (l : List Int) (most : Nat) (_ : ∀ n ∈ l, 0 ≤ n ∧ n < 9223372036854775808 ∧ n.toNat ≤ most) (r : List Nat),
    many l.length ⟨(l.flatMap fun n => Vy.enc n.toNat) ++ r, 0⟩ most = (l.map Int.toNat, ⟨r, 0⟩)
  | [], _, _, _ => rfl
  | n :: l, most, h, r => by
    have hn := h n (by simp)
    have e := num_enc n.toNat most (by omega) hn.2.2 ((l.flatMap fun n => Vy.enc n.toNat) ++ r)
    have ih := many_enc l most (fun m hm => h m (by simp [hm])) r
    simp only [List.length_cons, many, List.flatMap_cons, List.append_assoc, e, ih, List.map_cons]
/-- A list is read as it was written. -/
theorem nums_enc (l : List Int) (most : Nat) (hl : l.length < 9223372036854775808) (h : ∀ n ∈ l, 0 ≤ n ∧ n < 9223372036854775808 ∧ n.toNat ≤ most) (r : List Nat) :
    nums ⟨wnums l ++ r, 0⟩ l.length most = (l.map Int.toNat, ⟨r, 0⟩) := by
  have e := num_enc l.length l.length (by omega) (Nat.le_refl _) ((l.flatMap fun n => Vy.enc n.toNat) ++ r)
  have e2 := many_enc l most h r
  unfold nums wnums
  rw [List.append_assoc, e]
  simp only [e2, if_true]

/-! Bytes that are cut. -/
theorem put_cut : ∀ (f n k : Nat), k < (Vy.put f n).length → ∀ c ∈ (Vy.put f n).take k, 128 ≤ c
  | 0, n, k, hk, c, hc => by
    have : k = 0 := by simp [Vy.put] at hk; omega
    subst this; simp at hc
  | f + 1, n, k, hk, c, hc => by
    by_cases h : n < 128
    · have : k = 0 := by simp [Vy.put, h] at hk; omega
      subst this; simp at hc
    · have e1 : Vy.put (f + 1) n = (n % 128 + 128) :: Vy.put f (n / 128) := by simp [Vy.put, h]
      rw [e1] at hk hc
      cases k with
      | zero => simp at hc
      | succ k =>
        simp only [List.take_succ_cons, List.mem_cons] at hc
        rcases hc with rfl | hc
        · omega
        · exact put_cut f (n / 128) k (by simpa using hk) c hc
/-- A number that is cut is too short. -/
theorem dec_cut (n k : Nat) (hn : n < 18446744073709551616) (hk : k < (Vy.enc n).length) : Vy.dec ((Vy.enc n).take k) = (0, 0, 3) := by
  have h1 := put_cut 9 n k hk
  have h2 := Vy.enc_byte n hn
  have h3 := Vy.enc_len n
  have hl : ((Vy.enc n).take k).length = k := by rw [List.length_take]; omega
  refine Vy.dec_short (k := k) (fun c hc => h2 c (List.mem_of_mem_take hc)) (fun c hc => ?_) (by omega) hl.symm
  rw [List.take_of_length_le (by omega)] at hc
  exact h1 c hc
theorem num_cut (n most k : Nat) (hn : n < 18446744073709551616) (hk : k < (Vy.enc n).length) : num ⟨(Vy.enc n).take k, 0⟩ most = (0, ⟨[], 3⟩) := by
  have h := dec_cut n k hn hk
  rw [num_err rfl (by show (Vy.dec ((Vy.enc n).take k)).2.2 ≠ 0; rw [h]; decide)]
  show (0, (⟨[], ((Vy.dec ((Vy.enc n).take k)).2.2 : Nat)⟩ : St)) = _
  rw [h]; rfl
theorem take_two (a b : List Nat) (k : Nat) : (k < a.length ∧ (a ++ b).take k = a.take k) ∨ (a.length ≤ k ∧ (a ++ b).take k = a ++ b.take (k - a.length)) := by
  rcases Nat.lt_or_ge k a.length with h | h
  · exact .inl ⟨h, by rw [List.take_append_of_le_length (by omega)]⟩
  · exact .inr ⟨h, by rw [List.take_append, List.take_of_length_le h]⟩
theorem many_cut : ∀ (l : List Int) (most k : Nat) (_ : ∀ n ∈ l, 0 ≤ n ∧ n < 9223372036854775808 ∧ n.toNat ≤ most), k < (l.flatMap fun n => Vy.enc n.toNat).length →
    (many l.length ⟨(l.flatMap fun n => Vy.enc n.toNat).take k, 0⟩ most).2 = ⟨[], 3⟩
  | [], _, _, _, hk => by simp at hk
  | n :: l, most, k, h, hk => by
    have hn := h n (by simp)
    rw [List.flatMap_cons, List.length_append] at hk
    simp only [List.length_cons, many, List.flatMap_cons]
    rcases take_two (Vy.enc n.toNat) (l.flatMap fun n => Vy.enc n.toNat) k with ⟨h1, h2⟩ | ⟨h1, h2⟩
    · rw [h2, num_cut _ _ _ (by omega) h1]
      exact many_bad _ (by decide) most
    · rw [h2, num_enc _ _ (by omega) hn.2.2]
      exact many_cut l most (k - (Vy.enc n.toNat).length) (fun m hm => h m (by simp [hm])) (by omega)
theorem nums_cut (l : List Int) (most k : Nat) (hl : l.length < 9223372036854775808) (h : ∀ n ∈ l, 0 ≤ n ∧ n < 9223372036854775808 ∧ n.toNat ≤ most) (hk : k < (wnums l).length) :
    (nums ⟨(wnums l).take k, 0⟩ l.length most).2 = ⟨[], 3⟩ := by
  unfold wnums at hk ⊢
  rw [List.length_append] at hk
  unfold nums
  rcases take_two (Vy.enc l.length) (l.flatMap fun n => Vy.enc n.toNat) k with ⟨h1, h2⟩ | ⟨h1, h2⟩
  · rw [h2, num_cut _ _ _ (by omega) h1]; rfl
  · rw [h2, num_enc _ _ (by omega) (Nat.le_refl _)]
    exact many_cut l most _ h (by omega)
end Go.Proofs.Ytgmnokmchjeflaa.Wr
