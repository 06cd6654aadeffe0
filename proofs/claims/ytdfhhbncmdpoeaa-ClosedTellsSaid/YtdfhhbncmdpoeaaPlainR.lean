/- Plain facts, one chapter behind the other: numbers' bytes, writing and reading, grammars, what comes of symbols, rounds, ranks, sets of terminals, reach, ways at the left. No program is named here. -/

/- Plain facts on the bytes of numbers: seven bits a byte, the lowest first. No program is named here. -/
namespace Go.Proofs.Ytdfhhbncmdpoeaa.Vy

/-- The bytes of a number, at most f and one of them. -/
def put : Nat → Nat → List Nat
  | 0, n => [n]
  | f + 1, n => if n < 128 then [n] else (n % 128 + 128) :: put f (n / 128)

/-- What is told at the byte c below 128 at place k, X being the number of the bytes ahead. -/
def fin (X k c : Nat) : Nat × Nat × Nat :=
  if k = 9 ∧ 1 < c then (0, 0, 4) else if 0 < k ∧ c = 0 then (0, 0, 2) else (X + c * 128 ^ k, k + 1, 0)

/-- What is told of bytes, k of them being read and X their number. -/
def scan : Nat → Nat → List Nat → Nat × Nat × Nat
  | _, k, [] => if k = 10 then (0, 0, 4) else (0, 0, 3)
  | X, k, c :: r => if k = 10 then (0, 0, 4) else if c < 128 then fin X k c else scan (X + (c - 128) * 128 ^ k) (k + 1) r

def enc (n : Nat) : List Nat := put 9 n
def dec (l : List Nat) : Nat × Nat × Nat := scan 0 0 l

theorem put_pos : ∀ f n, 0 < (put f n).length
  | 0, _ => by simp [put]
  | f + 1, n => by unfold put; split <;> simp
theorem put_len : ∀ f n, (put f n).length ≤ f + 1
  | 0, _ => by simp [put]
  | f + 1, n => by
    unfold put; split
    · simp
    · have := put_len f (n / 128); simp; omega
theorem put_byte : ∀ f n, n < 128 ^ (f + 1) → ∀ c ∈ put f n, c < 256
  | 0, n, h, c, hc => by simp [put] at hc; omega
  | f + 1, n, h, c, hc => by
    unfold put at hc
    split at hc
    · simp at hc; omega
    · rcases List.mem_cons.1 hc with rfl | hc
      · omega
      · refine put_byte f (n / 128) ?_ c hc
        rw [Nat.div_lt_iff_lt_mul (by decide)]
        rwa [Nat.pow_succ] at h
theorem put_ne (f n : Nat) : put f n ≠ [] := fun h => by have := put_pos f n; rw [h] at this; simp at this

theorem pow_ge (k : Nat) (h : 10 ≤ k) : 18446744073709551616 ≤ 128 ^ k :=
  Nat.le_trans (by decide) (Nat.pow_le_pow_right (by decide) h)

theorem fin_ok (X k n : Nat) (h64 : n * 128 ^ k < 18446744073709551616) (h0 : 0 < k → 0 < n) : fin X k n = (X + n * 128 ^ k, k + 1, 0) := by
  unfold fin
  rw [if_neg, if_neg]
  · rintro ⟨h, rfl⟩; have := h0 h; omega
  · rintro ⟨rfl, h⟩; have e : (128 : Nat) ^ 9 = 9223372036854775808 := by decide
    rw [e] at h64; omega

theorem scan_put : ∀ (f X k n : Nat) (rest : List Nat), f + k ≤ 9 → n < 128 ^ (f + 1) → n * 128 ^ k < 18446744073709551616 → (0 < k → 0 < n) →
    scan X k (put f n ++ rest) = (X + n * 128 ^ k, k + (put f n).length, 0)
  | 0, X, k, n, rest, hk, hn, h64, h0 => by
    have hn' : n < 128 := by simpa using hn
    simp only [put, List.cons_append, List.nil_append, scan, List.length_cons, List.length_nil]
    rw [if_neg (by omega), if_pos hn', fin_ok X k n h64 h0]
  | f + 1, X, k, n, rest, hk, hn, h64, h0 => by
    by_cases h : n < 128
    · simp only [put, h, if_true, List.cons_append, List.nil_append, scan, List.length_cons, List.length_nil]
      rw [if_neg (by omega), fin_ok X k n h64 h0]
    · have e1 : put (f + 1) n = (n % 128 + 128) :: put f (n / 128) := by simp [put, h]
      have e2 : n * 128 ^ k = n % 128 * 128 ^ k + n / 128 * 128 ^ (k + 1) := by
        have := Nat.mod_add_div n 128
        calc n * 128 ^ k = (n % 128 + 128 * (n / 128)) * 128 ^ k := by rw [this]
          _ = n % 128 * 128 ^ k + n / 128 * 128 ^ (k + 1) := by rw [Nat.add_mul, Nat.pow_succ]; congr 1; rw [Nat.mul_comm 128 (n / 128), Nat.mul_assoc, Nat.mul_comm 128 (128 ^ k)]
      have hd : n / 128 < 128 ^ (f + 1) := by
        rw [Nat.div_lt_iff_lt_mul (by decide)]
        rwa [Nat.pow_succ] at hn
      have ih := scan_put f (X + n % 128 * 128 ^ k) (k + 1) (n / 128) rest (by omega) hd (by omega) (fun _ => by omega)
      rw [e1]
      simp only [List.cons_append, scan, List.length_cons]
      rw [if_neg (by omega), if_neg (by omega), Nat.add_sub_cancel, ih]
      simp only [Prod.mk.injEq, and_true]
      omega

theorem scan_cut : ∀ (f X k n : Nat), f + k ≤ 9 → scan X k ((put f n).dropLast) = (0, 0, 3)
  | 0, X, k, n, h => by
    simp only [put, List.dropLast_singleton, scan]; rw [if_neg (by omega)]
  | f + 1, X, k, n, h => by
    by_cases hn : n < 128
    · simp only [put, hn, if_true, List.dropLast_singleton, scan]; rw [if_neg (by omega)]
    · have e1 : put (f + 1) n = (n % 128 + 128) :: put f (n / 128) := by simp [put, hn]
      rw [e1, List.dropLast_cons_of_ne_nil (put_ne _ _)]
      simp only [scan]
      rw [if_neg (by omega), if_neg (by omega)]
      exact scan_cut f _ (k + 1) (n / 128) (by omega)

/-- Beside an error there is nothing. -/
theorem scan_err : ∀ (l : List Nat) (X k : Nat), (scan X k l).2.2 ≠ 0 → (scan X k l).1 = 0 ∧ (scan X k l).2.1 = 0
  | [], X, k => by unfold scan; split <;> simp
  | c :: r, X, k => by
    unfold scan
    split
    · simp
    · split
      · unfold fin; split
        · simp
        · split <;> simp
      · exact scan_err r _ _

theorem scan_ok : ∀ (l : List Nat) (X k : Nat), (∀ c ∈ l, c < 256) → k ≤ 9 → (scan X k l).2.2 = 0 →
    ∃ v m, scan X k l = (X + v * 128 ^ k, k + m, 0) ∧ (0 < k → 0 < v) ∧ v * 128 ^ k < 18446744073709551616 ∧ 0 < m ∧ m ≤ l.length ∧ put (9 - k) v = l.take m
  | [], X, k, _, _, h => by
    unfold scan at h; split at h <;> simp at h
  | c :: r, X, k, hb, hk, h => by
    unfold scan at h ⊢
    rw [if_neg (by omega)] at h ⊢
    by_cases hc : c < 128
    · rw [if_pos hc] at h ⊢
      unfold fin at h ⊢
      by_cases h1 : k = 9 ∧ 1 < c
      · rw [if_pos h1] at h; simp at h
      · rw [if_neg h1] at h ⊢
        by_cases h2 : 0 < k ∧ c = 0
        · rw [if_pos h2] at h; simp at h
        · rw [if_neg h2]
          refine ⟨c, 1, rfl, by omega, ?_, by omega, by simp, ?_⟩
          · by_cases h9 : k = 9
            · subst h9
              have : c ≤ 1 := by omega
              have e : (128 : Nat) ^ 9 = 9223372036854775808 := by decide
              rw [e]; omega
            · have h8 : 128 ^ k ≤ 128 ^ 8 := Nat.pow_le_pow_right (by decide) (by omega)
              have e : (128 : Nat) ^ 8 = 72057594037927936 := by decide
              rw [e] at h8
              calc c * 128 ^ k ≤ 127 * 72057594037927936 := Nat.mul_le_mul (by omega) h8
                _ < 18446744073709551616 := by decide
          · cases hf : 9 - k with
            | zero => simp [put]
            | succ f => simp [put, hc]
    · rw [if_neg hc] at h ⊢
      by_cases h9 : k = 9
      · subst h9
        exfalso
        cases r with
        | nil => simp [scan] at h
        | cons d s => simp [scan] at h
      · have hc256 : c < 256 := hb c (by simp)
        obtain ⟨v, m, e, hv, h64, hm, hml, hp⟩ := scan_ok r (X + (c - 128) * 128 ^ k) (k + 1) (fun d hd => hb d (by simp [hd])) (by omega) h
        have hv' := hv (by omega)
        have e2 : (c - 128 + 128 * v) * 128 ^ k = (c - 128) * 128 ^ k + v * 128 ^ (k + 1) := by
          rw [Nat.add_mul, Nat.pow_succ]; congr 1; rw [Nat.mul_comm 128 v, Nat.mul_assoc, Nat.mul_comm 128 (128 ^ k)]
        refine ⟨c - 128 + 128 * v, m + 1, ?_, by omega, ?_, by omega, by simp; omega, ?_⟩
        · rw [e, e2]; simp only [Prod.mk.injEq, and_true]; omega
        · rw [e2]
          by_cases hk8 : k ≤ 8
          · have h64' : v * 128 ^ (k + 1) + 128 ^ (k + 1) ≤ 18446744073709551616 := by
              obtain ⟨q, hq⟩ : ∃ q, 18446744073709551616 = q * 128 ^ (k + 1) := ⟨2 * 128 ^ (8 - k), by rw [Nat.mul_assoc, ← Nat.pow_add, show 8 - k + (k + 1) = 9 by omega]⟩
              rw [hq] at h64 ⊢
              have hlt : v < q := Nat.lt_of_mul_lt_mul_right h64
              calc v * 128 ^ (k + 1) + 128 ^ (k + 1) = (v + 1) * 128 ^ (k + 1) := by rw [Nat.add_mul, Nat.one_mul]
                _ ≤ q * 128 ^ (k + 1) := Nat.mul_le_mul_right _ hlt
            have : (c - 128) * 128 ^ k < 128 * 128 ^ k := Nat.mul_lt_mul_of_pos_right (by omega) (Nat.pow_pos (by decide))
            rw [Nat.pow_succ] at h64' ⊢
            omega
          · omega
        · have ef : 9 - k = (9 - (k + 1)) + 1 := by omega
          rw [ef]
          simp only [put, List.take_succ_cons]
          rw [if_neg (by omega), show (c - 128 + 128 * v) % 128 + 128 = c by omega, show (c - 128 + 128 * v) / 128 = v by omega, hp]

/-- All of what is told of the bytes of a number, whatever stands behind. -/
theorem dec_enc (n : Nat) (hn : n < 18446744073709551616) (rest : List Nat) : dec (enc n ++ rest) = (n, (enc n).length, 0) := by
  have e : n < 128 ^ (9 + 1) := Nat.lt_of_lt_of_le hn (by decide)
  have := scan_put 9 0 0 n rest (by omega) e (by simpa using hn) (by omega)
  simpa [dec, enc] using this
theorem dec_cut (n : Nat) : dec ((enc n).dropLast) = (0, 0, 3) := scan_cut 9 0 0 n (by omega)
theorem dec_err (l : List Nat) (h : (dec l).2.2 ≠ 0) : (dec l).1 = 0 ∧ (dec l).2.1 = 0 := scan_err l 0 0 h
theorem dec_ok (l : List Nat) (hb : ∀ c ∈ l, c < 256) (h : (dec l).2.2 = 0) :
    ∃ v m, dec l = (v, m, 0) ∧ v < 18446744073709551616 ∧ 0 < m ∧ m ≤ l.length ∧ enc v = l.take m := by
  obtain ⟨v, m, e, _, h64, hm, hml, hp⟩ := scan_ok l 0 0 hb (by omega) h
  exact ⟨v, m, by simpa [dec] using e, by simpa using h64, hm, hml, hp⟩
theorem enc_len (n : Nat) : 0 < (enc n).length ∧ (enc n).length ≤ 10 := ⟨put_pos 9 n, put_len 9 n⟩
theorem enc_byte (n : Nat) (hn : n < 18446744073709551616) : ∀ c ∈ enc n, c < 256 := put_byte 9 n (Nat.lt_of_lt_of_le hn (by decide))
theorem enc_inj (n m : Nat) (hn : n < 18446744073709551616) (hm : m < 18446744073709551616) : enc n = enc m ↔ n = m := by
  refine ⟨fun h => ?_, fun h => by rw [h]⟩
  have a := dec_enc n hn []
  have b := dec_enc m hm []
  rw [h, b] at a
  injection a with a _
  exact a.symm

/-- The number of rows of seven bits, the lowest first. -/
def dval : List Nat → Nat
  | [] => 0
  | c :: r => c % 128 + 128 * dval r
theorem dval_append (a b : List Nat) : dval (a ++ b) = dval a + dval b * 128 ^ a.length := by
  induction a with
  | nil => simp [dval]
  | cons c a ih =>
    simp only [List.cons_append, dval, ih, List.length_cons, Nat.pow_succ, Nat.mul_add]
    rw [show 128 * (dval b * 128 ^ a.length) = dval b * (128 ^ a.length * 128) by rw [Nat.mul_comm 128, Nat.mul_assoc]]
    omega
theorem dval_drop (l : List Nat) (i : Nat) : dval (l.drop i) ≤ dval l := by
  induction l generalizing i with
  | nil => simp
  | cons c r ih =>
    cases i with
    | zero => simp
    | succ i => have := ih i; simp only [List.drop_succ_cons, dval]; omega
theorem scan_run (a : List Nat) : ∀ (X j : Nat) (r : List Nat), (∀ c ∈ a, 128 ≤ c ∧ c < 256) → j + a.length ≤ 10 → scan X j (a ++ r) = scan (X + dval a * 128 ^ j) (j + a.length) r := by
  induction a with
  | nil => intro X j r _ _; simp [dval]
  | cons c a ih =>
    intro X j r h hj
    have hc := h c (by simp)
    simp only [List.length_cons] at hj ⊢
    simp only [List.cons_append, scan]
    rw [if_neg (by omega), if_neg (by omega), ih _ _ _ (fun d hd => h d (by simp [hd])) (by omega)]
    have e : (c - 128) * 128 ^ j + dval a * 128 ^ (j + 1) = dval (c :: a) * 128 ^ j := by
      simp only [dval]
      rw [show c % 128 = c - 128 by omega, Nat.add_mul, Nat.pow_succ, Nat.mul_comm 128 (dval a), Nat.mul_assoc, Nat.mul_comm 128 (128 ^ j)]
    rw [Nat.add_assoc X, e, show j + 1 + a.length = j + (a.length + 1) by omega]
section
variable {l : List Nat} {k : Nat}
theorem dec_at (hb : ∀ c ∈ l, c < 256) (hg : ∀ c ∈ l.take k, 128 ≤ c) (hk : k ≤ 10) (hl : k ≤ l.length) : dec l = scan (dval (l.take k)) k (l.drop k) := by
  have h := scan_run (l.take k) 0 0 (l.drop k) (fun c hc => ⟨hg c hc, hb c (List.mem_of_mem_take hc)⟩) (by simp; omega)
  rw [List.take_append_drop] at h
  simpa [dec, Nat.min_eq_left hl] using h
theorem dec_long (hb : ∀ c ∈ l, c < 256) (hg : ∀ c ∈ l.take k, 128 ≤ c) (hk : 10 ≤ k) (hl : k ≤ l.length) : dec l = (0, 0, 4) := by
  have hg' : ∀ c ∈ l.take 10, 128 ≤ c := fun c hc => hg c (List.take_subset_take_left l hk hc)
  rw [dec_at hb hg' (Nat.le_refl _) (by omega)]
  cases l.drop 10 <;> simp [scan]
theorem dec_short (hb : ∀ c ∈ l, c < 256) (hg : ∀ c ∈ l.take k, 128 ≤ c) (hk : k < 10) (hl : k = l.length) : dec l = (0, 0, 3) := by
  rw [dec_at hb hg (by omega) (by omega), List.drop_of_length_le (by omega)]
  simp only [scan]; rw [if_neg (by omega)]
theorem dec_fin (hb : ∀ c ∈ l, c < 256) (hg : ∀ c ∈ l.take k, 128 ≤ c) (hk : k < 10) (hl : k < l.length) (hc : l[k] < 128) : dec l = fin (dval (l.take k)) k l[k] := by
  rw [dec_at hb hg (by omega) (by omega), List.drop_eq_getElem_cons hl]
  simp only [scan]; rw [if_neg (by omega), if_pos hc]
theorem dval_last (hl : k < l.length) (hc : l[k] < 128) : dval (l.take (k + 1)) = dval (l.take k) + l[k] * 128 ^ k := by
  rw [List.take_succ_eq_append_getElem hl, dval_append]
  simp [dval, Nat.mod_eq_of_lt hc, Nat.min_eq_left (Nat.le_of_lt hl)]
theorem dval_small (hk : k < 10) (hl : k < l.length) (hc : l[k] < 128) (h9 : k = 9 → l[k] ≤ 1) : dval (l.take (k + 1)) < 18446744073709551616 := by
  have hlt : ∀ a : List Nat, dval a < 128 ^ a.length := by
    intro a
    induction a with
    | nil => simp [dval]
    | cons c a ih =>
      simp only [dval, List.length_cons, Nat.pow_succ]
      omega
  rw [dval_last hl hc]
  have h1 := hlt (l.take k)
  rw [List.length_take, Nat.min_eq_left (Nat.le_of_lt hl)] at h1
  by_cases e : k = 9
  · have := h9 e; subst e
    have e : (128 : Nat) ^ 9 = 9223372036854775808 := by decide
    rw [e] at h1 ⊢; omega
  · have h8 : 128 ^ k ≤ 128 ^ 8 := Nat.pow_le_pow_right (by decide) (by omega)
    have e : (128 : Nat) ^ 8 = 72057594037927936 := by decide
    rw [e] at h8
    have : l[k] * 128 ^ k ≤ 127 * 72057594037927936 := Nat.mul_le_mul (by omega) h8
    omega
theorem dval_step (i : Nat) (hi : i ≤ k) (hl : k < l.length) : dval ((l.take (k + 1)).drop i) = 128 * dval ((l.take (k + 1)).drop (i + 1)) + l[i] % 128 := by
  have h : i < (l.take (k + 1)).length := by simp; omega
  rw [List.drop_eq_getElem_cons h]
  simp only [dval, List.getElem_take]
  omega
end
end Go.Proofs.Ytdfhhbncmdpoeaa.Vy
/- Plain facts on things that are written and read, one behind the other. No program is named here. -/
namespace Go.Proofs.Ytdfhhbncmdpoeaa.Wr

/-- What a reader holds: the bytes that are left, and what went wrong. -/
structure St where
  l : List Nat
  e : Int

/-- Bytes are bytes; where something went wrong nothing is left. -/
def St.ok (s : St) : Prop := (∀ c ∈ s.l, c < 256) ∧ (s.e ≠ 0 → s.l = [])
/-- Something goes wrong. -/
def bad (s : St) (x : Int) : St := if x = 0 ∨ s.e ≠ 0 then s else ⟨[], x⟩
/-- The next number. -/
def num (s : St) (most : Nat) : Nat × St :=
  if s.e ≠ 0 then (0, s)
  else if (Vy.dec s.l).2.2 ≠ 0 then (0, ⟨[], ((Vy.dec s.l).2.2 : Nat)⟩)
  else if most < (Vy.dec s.l).1 then (0, ⟨[], 5⟩)
  else ((Vy.dec s.l).1, ⟨s.l.drop (Vy.dec s.l).2.1, 0⟩)
/-- So many numbers. -/
def many : Nat → St → Nat → List Nat × St
  | 0, s, _ => ([], s)
  | k + 1, s, most => ((num s most).1 :: (many k (num s most).2 most).1, (many k (num s most).2 most).2)
/-- A list of numbers. -/
def nums (s : St) (mn most : Nat) : List Nat × St :=
  (if (many (num s mn).1 (num s mn).2 most).2.e = 0 then (many (num s mn).1 (num s mn).2 most).1 else [], (many (num s mn).1 (num s mn).2 most).2)
/-- What is told at the end. -/
def fin (s : St) : Int := if 0 < s.l.length then 4 else s.e

theorem bad_ok {s : St} (h : s.ok) (x : Int) : (bad s x).ok := by
  unfold bad; split
  · exact h
  · exact ⟨by simp, fun _ => rfl⟩
theorem num_ok {s : St} (h : s.ok) (most : Nat) : (num s most).2.ok := by
  unfold num
  by_cases h0 : s.e ≠ 0
  · rw [if_pos h0]; exact h
  · rw [if_neg h0]
    by_cases h1 : (Vy.dec s.l).2.2 ≠ 0
    · rw [if_pos h1]; exact ⟨by simp, fun _ => rfl⟩
    · rw [if_neg h1]
      by_cases h2 : most < (Vy.dec s.l).1
      · rw [if_pos h2]; exact ⟨by simp, fun _ => rfl⟩
      · rw [if_neg h2]; exact ⟨fun c hc => h.1 c (List.mem_of_mem_drop hc), fun h => absurd rfl h⟩
theorem num_le (s : St) (most : Nat) : (num s most).1 ≤ most := by
  unfold num
  by_cases h0 : s.e ≠ 0
  · rw [if_pos h0]; exact Nat.zero_le _
  · rw [if_neg h0]
    by_cases h1 : (Vy.dec s.l).2.2 ≠ 0
    · rw [if_pos h1]; exact Nat.zero_le _
    · rw [if_neg h1]
      by_cases h2 : most < (Vy.dec s.l).1
      · rw [if_pos h2]; exact Nat.zero_le _
      · rw [if_neg h2]; exact Nat.le_of_not_lt h2
theorem num_bad {s : St} (h : s.e ≠ 0) (most : Nat) : num s most = (0, s) := by unfold num; rw [if_pos h]
theorem num_err {s : St} (h0 : s.e = 0) (h : (Vy.dec s.l).2.2 ≠ 0) (most : Nat) : num s most = (0, ⟨[], ((Vy.dec s.l).2.2 : Nat)⟩) := by
  unfold num; rw [if_neg (by simpa using h0), if_pos h]
theorem num_big {s : St} (h0 : s.e = 0) (h : (Vy.dec s.l).2.2 = 0) {most : Nat} (hm : most < (Vy.dec s.l).1) : num s most = (0, ⟨[], 5⟩) := by
  unfold num; rw [if_neg (by simpa using h0), if_neg (by simpa using h), if_pos hm]
theorem num_fine {s : St} (h0 : s.e = 0) (h : (Vy.dec s.l).2.2 = 0) {most : Nat} (hm : (Vy.dec s.l).1 ≤ most) : num s most = ((Vy.dec s.l).1, ⟨s.l.drop (Vy.dec s.l).2.1, 0⟩) := by
  unfold num; rw [if_neg (by simpa using h0), if_neg (by simpa using h), if_neg (by omega)]
theorem num_wrong {s : St} {most : Nat} (h : (num s most).2.e ≠ 0) : (num s most).1 = 0 := by
  unfold num at h ⊢
  by_cases h0 : s.e ≠ 0
  · rw [if_pos h0]
  · rw [if_neg h0] at h ⊢
    by_cases h1 : (Vy.dec s.l).2.2 ≠ 0
    · rw [if_pos h1]
    · rw [if_neg h1] at h ⊢
      by_cases h2 : most < (Vy.dec s.l).1
      · rw [if_pos h2]
      · rw [if_neg h2] at h; exact absurd rfl h

theorem many_ok : ∀ (k : Nat) {s : St} (_ : s.ok) (most : Nat), (many k s most).2.ok
  | 0, _, h, _ => h
  | k + 1, _, h, most => many_ok k (num_ok h most) most
theorem many_len : ∀ (k : Nat) (s : St) (most : Nat), (many k s most).1.length = k
  | 0, _, _ => rfl
  | k + 1, s, most => by simp only [many, List.length_cons, many_len k]
theorem many_snoc : ∀ (k : Nat) (s : St) (most : Nat), many (k + 1) s most = ((many k s most).1 ++ [(num (many k s most).2 most).1], (num (many k s most).2 most).2)
  | 0, _, _ => rfl
  | k + 1, s, most => by
    have ih := many_snoc k (num s most).2 most
    rw [many, ih]
    rfl
theorem many_bad : ∀ (k : Nat) {s : St} (_ : s.e ≠ 0) (most : Nat), (many k s most).2 = s
  | 0, _, _, _ => rfl
  | k + 1, s, h, most => by
    show (many k (num s most).2 most).2 = s
    rw [num_bad h]
    exact many_bad k h most
theorem many_add : ∀ (k j : Nat) (s : St) (most : Nat), (many (k + j) s most).2 = (many j (many k s most).2 most).2
  | 0, j, s, most => by rw [Nat.zero_add]; rfl
  | k + 1, j, s, most => by
    rw [Nat.add_right_comm]
    exact many_add k j (num s most).2 most
/-- Once something went wrong it stays. -/
theorem many_stays {k n : Nat} (hk : k ≤ n) {s : St} {most : Nat} (h : (many k s most).2.e ≠ 0) : (many n s most).2 = (many k s most).2 := by
  obtain ⟨j, rfl⟩ := Nat.le.dest hk
  rw [many_add, many_bad j h]
theorem nums_ok {s : St} (h : s.ok) (mn most : Nat) : (nums s mn most).2.ok := many_ok _ (num_ok h mn) most
theorem nums_len (s : St) (mn most : Nat) : (nums s mn most).1.length ≤ mn := by
  unfold nums; split
  · rw [many_len]; exact num_le s mn
  · exact Nat.zero_le _
/-- The end of a list that is read to its end. -/
theorem nums_done {s : St} {mn most : Nat} (h : (many (num s mn).1 (num s mn).2 most).2.e = 0) : nums s mn most = many (num s mn).1 (num s mn).2 most := by
  unfold nums; rw [if_pos h]
theorem nums_wrong {s : St} {mn most k : Nat} (hk : k ≤ (num s mn).1) (h : (many k (num s mn).2 most).2.e ≠ 0) : nums s mn most = ([], (many k (num s mn).2 most).2) := by
  unfold nums
  rw [many_stays hk h, if_neg h]
/-- A list at whose head something went wrong. -/
theorem nums_none {s : St} {mn most : Nat} (h : (num s mn).2.e ≠ 0) : nums s mn most = ([], (num s mn).2) := by
  exact nums_wrong (k := 0) (Nat.zero_le _) h

/-! What is written. -/
/-- The bytes of a list. -/
def wnums (l : List Int) : List Nat := Vy.enc l.length ++ l.flatMap fun n => Vy.enc n.toNat
/-- The bytes of a bool. -/
def wbool (b : Bool) : List Nat := [if b then 1 else 0]
theorem enc_one : Vy.enc 1 = [1] := by decide
theorem enc_zero : Vy.enc 0 = [0] := by decide

/-- A number is read as it was written. -/
theorem num_enc (n most : Nat) (hn : n < 18446744073709551616) (hm : n ≤ most) (r : List Nat) : num ⟨Vy.enc n ++ r, 0⟩ most = (n, ⟨r, 0⟩) := by
  have h := Vy.dec_enc n hn r
  rw [num_fine rfl (by show (Vy.dec (Vy.enc n ++ r)).2.2 = 0; rw [h]) (by show (Vy.dec (Vy.enc n ++ r)).1 ≤ most; rw [h]; exact hm)]
  show ((Vy.dec (Vy.enc n ++ r)).1, (⟨(Vy.enc n ++ r).drop (Vy.dec (Vy.enc n ++ r)).2.1, 0⟩ : St)) = _
  rw [h]
  simp
theorem many_enc : ∀ (l : List Int) (most : Nat) (_ : ∀ n ∈ l, 0 ≤ n ∧ n < 9223372036854775808 ∧ n.toNat ≤ most) (r : List Nat),
    many l.length ⟨(l.flatMap fun n => Vy.enc n.toNat) ++ r, 0⟩ most = (l.map Int.toNat, ⟨r, 0⟩)
  | [], _, _, _ => rfl
  | n :: l, most, h, r => by
    have hn := h n (by simp)
    have e := num_enc n.toNat most (by omega) hn.2.2 ((l.flatMap fun n => Vy.enc n.toNat) ++ r)
    have ih := many_enc l most (fun m hm => h m (by simp [hm])) r
    simp only [List.length_cons, many, List.flatMap_cons, List.append_assoc, e, ih, List.map_cons]
/-- A list is read as it was written. -/
theorem nums_enc (l : List Int) (most : Nat) (hl : l.length < 9223372036854775808) (h : ∀ n ∈ l, 0 ≤ n ∧ n < 9223372036854775808 ∧ n.toNat ≤ most) (r : List Nat) :
    nums ⟨wnums l ++ r, 0⟩ l.length most = (l.map Int.toNat, ⟨r, 0⟩) := by
  have e := num_enc l.length l.length (by omega) (Nat.le_refl _) ((l.flatMap fun n => Vy.enc n.toNat) ++ r)
  have e2 := many_enc l most h r
  unfold nums wnums
  rw [List.append_assoc, e]
  simp only [e2, if_true]

/-! Bytes that are cut. -/
theorem put_cut : ∀ (f n k : Nat), k < (Vy.put f n).length → ∀ c ∈ (Vy.put f n).take k, 128 ≤ c
  | 0, n, k, hk, c, hc => by
    have : k = 0 := by simp [Vy.put] at hk; omega
    subst this; simp at hc
  | f + 1, n, k, hk, c, hc => by
    by_cases h : n < 128
    · have : k = 0 := by simp [Vy.put, h] at hk; omega
      subst this; simp at hc
    · have e1 : Vy.put (f + 1) n = (n % 128 + 128) :: Vy.put f (n / 128) := by simp [Vy.put, h]
      rw [e1] at hk hc
      cases k with
      | zero => simp at hc
      | succ k =>
        simp only [List.take_succ_cons, List.mem_cons] at hc
        rcases hc with rfl | hc
        · omega
        · exact put_cut f (n / 128) k (by simpa using hk) c hc
/-- A number that is cut is too short. -/
theorem dec_cut (n k : Nat) (hn : n < 18446744073709551616) (hk : k < (Vy.enc n).length) : Vy.dec ((Vy.enc n).take k) = (0, 0, 3) := by
  have h1 := put_cut 9 n k hk
  have h2 := Vy.enc_byte n hn
  have h3 := Vy.enc_len n
  have hl : ((Vy.enc n).take k).length = k := by rw [List.length_take]; omega
  refine Vy.dec_short (k := k) (fun c hc => h2 c (List.mem_of_mem_take hc)) (fun c hc => ?_) (by omega) hl.symm
  rw [List.take_of_length_le (by omega)] at hc
  exact h1 c hc
theorem num_cut (n most k : Nat) (hn : n < 18446744073709551616) (hk : k < (Vy.enc n).length) : num ⟨(Vy.enc n).take k, 0⟩ most = (0, ⟨[], 3⟩) := by
  have h := dec_cut n k hn hk
  rw [num_err rfl (by show (Vy.dec ((Vy.enc n).take k)).2.2 ≠ 0; rw [h]; decide)]
  show (0, (⟨[], ((Vy.dec ((Vy.enc n).take k)).2.2 : Nat)⟩ : St)) = _
  rw [h]; rfl
theorem take_two (a b : List Nat) (k : Nat) : (k < a.length ∧ (a ++ b).take k = a.take k) ∨ (a.length ≤ k ∧ (a ++ b).take k = a ++ b.take (k - a.length)) := by
  rcases Nat.lt_or_ge k a.length with h | h
  · exact .inl ⟨h, by rw [List.take_append_of_le_length (by omega)]⟩
  · exact .inr ⟨h, by rw [List.take_append, List.take_of_length_le h]⟩
theorem many_cut : ∀ (l : List Int) (most k : Nat) (_ : ∀ n ∈ l, 0 ≤ n ∧ n < 9223372036854775808 ∧ n.toNat ≤ most), k < (l.flatMap fun n => Vy.enc n.toNat).length →
    (many l.length ⟨(l.flatMap fun n => Vy.enc n.toNat).take k, 0⟩ most).2 = ⟨[], 3⟩
  | [], _, _, _, hk => by simp at hk
  | n :: l, most, k, h, hk => by
    have hn := h n (by simp)
    rw [List.flatMap_cons, List.length_append] at hk
    simp only [List.length_cons, many, List.flatMap_cons]
    rcases take_two (Vy.enc n.toNat) (l.flatMap fun n => Vy.enc n.toNat) k with ⟨h1, h2⟩ | ⟨h1, h2⟩
    · rw [h2, num_cut _ _ _ (by omega) h1]
      exact many_bad _ (by decide) most
    · rw [h2, num_enc _ _ (by omega) hn.2.2]
      exact many_cut l most (k - (Vy.enc n.toNat).length) (fun m hm => h m (by simp [hm])) (by omega)
theorem nums_cut (l : List Int) (most k : Nat) (hl : l.length < 9223372036854775808) (h : ∀ n ∈ l, 0 ≤ n ∧ n < 9223372036854775808 ∧ n.toNat ≤ most) (hk : k < (wnums l).length) :
    (nums ⟨(wnums l).take k, 0⟩ l.length most).2 = ⟨[], 3⟩ := by
  unfold wnums at hk ⊢
  rw [List.length_append] at hk
  unfold nums
  rcases take_two (Vy.enc l.length) (l.flatMap fun n => Vy.enc n.toNat) k with ⟨h1, h2⟩ | ⟨h1, h2⟩
  · rw [h2, num_cut _ _ _ (by omega) h1]; rfl
  · rw [h2, num_enc _ _ (by omega) (Nat.le_refl _)]
    exact many_cut l most _ h (by omega)
end Go.Proofs.Ytdfhhbncmdpoeaa.Wr
/- Plain facts on grammars, their bytes, and what is read of bytes. No program is named here. -/
namespace Go.Proofs.Ytdfhhbncmdpoeaa.Gr

structure Sy where
  non : Bool
  n : Int
structure Pr where
  left : Int
  right : List Sy
structure Gm where
  terms : Int
  nons : Int
  start : Int
  prods : List Pr

/-- May a symbol, a production, a grammar be? -/
def okSy (g : Gm) (s : Sy) : Prop := 0 ≤ s.n ∧ (s.non = true → s.n < g.nons) ∧ (s.non = false → s.n < g.terms)
def okPr (g : Gm) (p : Pr) : Prop := 0 ≤ p.left ∧ p.left < g.nons ∧ p.right.length ≤ 8 ∧ ∀ s ∈ p.right, okSy g s
def Ok (g : Gm) : Prop := 0 ≤ g.terms ∧ g.terms ≤ 16 ∧ 1 ≤ g.nons ∧ g.nons ≤ 24 ∧ 0 ≤ g.start ∧ g.start < g.nons ∧ g.prods.length ≤ 60 ∧ ∀ p ∈ g.prods, okPr g p

/-- A symbol's number, and back. -/
def code (s : Sy) : Nat := 2 * s.n.toNat + (if s.non then 1 else 0)
def sym (n : Nat) : Sy := ⟨decide (n % 2 = 1), ((n / 2 : Nat) : Int)⟩
theorem sym_code (s : Sy) (h : 0 ≤ s.n) : sym (code s) = s := by
  obtain ⟨b, n⟩ := s
  have h : 0 ≤ n := h
  have e : ((n.toNat : Nat) : Int) = n := Int.toNat_of_nonneg h
  cases b with
  | true =>
    have h1 : (2 * n.toNat + 1) % 2 = 1 := by omega
    have h2 : (2 * n.toNat + 1) / 2 = n.toNat := by omega
    show (⟨decide ((2 * n.toNat + 1) % 2 = 1), (((2 * n.toNat + 1) / 2 : Nat) : Int)⟩ : Sy) = ⟨true, n⟩
    rw [h2, e, decide_eq_true h1]
  | false =>
    have h1 : ¬ (2 * n.toNat + 0) % 2 = 1 := by omega
    have h2 : (2 * n.toNat + 0) / 2 = n.toNat := by omega
    show (⟨decide ((2 * n.toNat + 0) % 2 = 1), (((2 * n.toNat + 0) / 2 : Nat) : Int)⟩ : Sy) = ⟨false, n⟩
    rw [h2, e, decide_eq_false h1]
theorem code_sym (n : Nat) : code (sym n) = n := by
  have e : (((n / 2 : Nat) : Int)).toNat = n / 2 := Int.toNat_natCast _
  show 2 * (((n / 2 : Nat) : Int)).toNat + (if decide (n % 2 = 1) = true then 1 else 0) = n
  rw [e]
  by_cases h : n % 2 = 1
  · rw [if_pos (by simpa using h)]; omega
  · rw [if_neg (by simpa using h)]; omega

/-- The bytes of numbers, one behind the other. -/
def encs (l : List Nat) : List Nat := l.flatMap Vy.enc
theorem encs_cons (n : Nat) (l : List Nat) : encs (n :: l) = Vy.enc n ++ encs l := rfl
theorem encs_append (a b : List Nat) : encs (a ++ b) = encs a ++ encs b := by simp [encs]
/-- The numbers of a production, and of a grammar. -/
def prNums (p : Pr) : List Nat := p.left.toNat :: p.right.length :: p.right.map code
def gmNums (g : Gm) : List Nat := g.terms.toNat :: g.nons.toNat :: g.start.toNat :: g.prods.length :: g.prods.flatMap prNums
def gmBytes (g : Gm) : List Nat := encs (gmNums g)

/-- What is read: symbols, a production, productions, a grammar. -/
def rdPr (s : Wr.St) : Pr × Wr.St :=
  (⟨((Wr.num s 23).1 : Int), ((Wr.many (Wr.num (Wr.num s 23).2 8).1 (Wr.num (Wr.num s 23).2 8).2 47).1).map sym⟩, (Wr.many (Wr.num (Wr.num s 23).2 8).1 (Wr.num (Wr.num s 23).2 8).2 47).2)
def rdPrs : Nat → Wr.St → List Pr × Wr.St
  | 0, s => ([], s)
  | k + 1, s => ((rdPr s).1 :: (rdPrs k (rdPr s).2).1, (rdPrs k (rdPr s).2).2)

/-- A number that was read without fault stood there. -/
theorem num_inv {l : List Nat} {most : Nat} (hb : ∀ c ∈ l, c < 256) (h : (Wr.num ⟨l, 0⟩ most).2.e = 0) :
    ∃ r, l = Vy.enc (Wr.num ⟨l, 0⟩ most).1 ++ r ∧ (Wr.num ⟨l, 0⟩ most).2 = ⟨r, 0⟩ ∧ ∀ c ∈ r, c < 256 := by
  by_cases h1 : (Vy.dec l).2.2 = 0
  · obtain ⟨v, m, hd, _, _, _, he⟩ := Vy.dec_ok l hb h1
    by_cases h2 : most < v
    · have e := Wr.num_big (s := ⟨l, 0⟩) rfl h1 (most := most) (by show most < (Vy.dec l).1; rw [hd]; exact h2)
      rw [e] at h
      exact absurd h (by decide)
    · have e := Wr.num_fine (s := ⟨l, 0⟩) rfl h1 (most := most) (by show (Vy.dec l).1 ≤ most; rw [hd]; show v ≤ most; omega)
      rw [e]
      refine ⟨l.drop m, ?_, ?_, fun c hc => hb c (List.mem_of_mem_drop hc)⟩
      · show l = Vy.enc (Vy.dec l).1 ++ l.drop m
        rw [hd, he, List.take_append_drop]
      · show (⟨l.drop (Vy.dec l).2.1, 0⟩ : Wr.St) = _
        rw [hd]
  · have e := Wr.num_err (s := ⟨l, 0⟩) rfl h1 most
    rw [e] at h
    have h : ((Vy.dec l).2.2 : Int) = 0 := h
    omega
theorem num_zero {s : Wr.St} {most : Nat} (h : (Wr.num s most).2.e = 0) : s.e = 0 := Classical.byContradiction fun hne => by
  rw [Wr.num_bad hne] at h; exact hne h
theorem many_zero : ∀ (k : Nat) {s : Wr.St} {most : Nat}, (Wr.many k s most).2.e = 0 → s.e = 0
  | 0, _, _, h => h
  | k + 1, _, _, h => num_zero (many_zero k h)
theorem many_inv : ∀ (k : Nat) {l : List Nat} {most : Nat} (_ : ∀ c ∈ l, c < 256), (Wr.many k ⟨l, 0⟩ most).2.e = 0 →
    ∃ r, l = encs (Wr.many k ⟨l, 0⟩ most).1 ++ r ∧ (Wr.many k ⟨l, 0⟩ most).2 = ⟨r, 0⟩ ∧ ∀ c ∈ r, c < 256
  | 0, l, _, hb, _ => ⟨l, rfl, rfl, hb⟩
  | k + 1, l, most, hb, h => by
    have h0 : (Wr.num ⟨l, 0⟩ most).2.e = 0 := many_zero k h
    obtain ⟨r, e1, e2, hr⟩ := num_inv hb h0
    have h' : (Wr.many k ⟨r, 0⟩ most).2.e = 0 := by
      have h : (Wr.many k (Wr.num ⟨l, 0⟩ most).2 most).2.e = 0 := h
      rw [e2] at h; exact h
    obtain ⟨r', e3, e4, hr'⟩ := many_inv k hr h'
    refine ⟨r', ?_, ?_, hr'⟩
    · show l = encs ((Wr.num ⟨l, 0⟩ most).1 :: (Wr.many k (Wr.num ⟨l, 0⟩ most).2 most).1) ++ r'
      rw [encs_cons, e2, List.append_assoc, ← e3, ← e1]
    · show (Wr.many k (Wr.num ⟨l, 0⟩ most).2 most).2 = _
      rw [e2]; exact e4
theorem many_encs : ∀ (l : List Nat) (most : Nat) (_ : ∀ n ∈ l, n ≤ most) (_ : most < 18446744073709551616) (r : List Nat), Wr.many l.length ⟨encs l ++ r, 0⟩ most = (l, ⟨r, 0⟩)
  | [], _, _, _, _ => rfl
  | n :: l, most, h, hm, r => by
    have hn := h n (by simp)
    have e := Wr.num_enc n most (by omega) hn (encs l ++ r)
    have ih := many_encs l most (fun m hm => h m (by simp [hm])) hm r
    simp only [List.length_cons, Wr.many, encs_cons, List.append_assoc, e, ih]

/-- A production is read as it was written. -/
theorem rdPr_back (g : Gm) (hg : g.nons ≤ 24) (ht : g.terms ≤ 16) (p : Pr) (h : okPr g p) (r : List Nat) : rdPr ⟨encs (prNums p) ++ r, 0⟩ = (p, ⟨r, 0⟩) := by
  obtain ⟨h1, h2, h3, h4⟩ := h
  have e1 : encs (prNums p) ++ r = Vy.enc p.left.toNat ++ (Vy.enc p.right.length ++ (encs (p.right.map code) ++ r)) := by
    simp [prNums, encs_cons]
  have n1 := Wr.num_enc p.left.toNat 23 (by omega) (by omega) (Vy.enc p.right.length ++ (encs (p.right.map code) ++ r))
  have n2 := Wr.num_enc p.right.length 8 (by omega) h3 (encs (p.right.map code) ++ r)
  have n3 := many_encs (p.right.map code) 47 (fun n hn => by
    obtain ⟨s, hs, rfl⟩ := List.mem_map.1 hn
    obtain ⟨q1, q2, q3⟩ := h4 s hs
    unfold code
    cases hb : s.non with
    | true => have := q2 hb; simp only [if_true]; omega
    | false => have := q3 hb; simp only [Bool.false_eq_true, if_false]; omega) (by decide) r
  rw [List.length_map] at n3
  unfold rdPr
  rw [e1, n1]
  simp only [n2, n3, List.map_map]
  have e2 : p.right.map (sym ∘ code) = p.right := by
    exact (List.map_congr_left (f := sym ∘ code) (g := id) fun s hs => sym_code s (h4 s hs).1).trans (List.map_id _)
  rw [e2, Int.toNat_of_nonneg h1]
theorem rdPrs_back (g : Gm) (hg : g.nons ≤ 24) (ht : g.terms ≤ 16) : ∀ (l : List Pr) (_ : ∀ p ∈ l, okPr g p) (r : List Nat), rdPrs l.length ⟨encs (l.flatMap prNums) ++ r, 0⟩ = (l, ⟨r, 0⟩)
  | [], _, _ => rfl
  | p :: l, h, r => by
    have e := rdPr_back g hg ht p (h p (by simp)) (encs (l.flatMap prNums) ++ r)
    have ih := rdPrs_back g hg ht l (fun q hq => h q (by simp [hq])) r
    simp only [List.length_cons, rdPrs, List.flatMap_cons, encs_append, List.append_assoc, e, ih]
/-- Productions that were read without fault stood there. -/
theorem rdPr_zero {s : Wr.St} (h : (rdPr s).2.e = 0) : s.e = 0 := num_zero (num_zero (many_zero _ h))
theorem rdPr_inv {l : List Nat} (hb : ∀ c ∈ l, c < 256) (h : (rdPr ⟨l, 0⟩).2.e = 0) :
    ∃ r, l = encs (prNums (rdPr ⟨l, 0⟩).1) ++ r ∧ (rdPr ⟨l, 0⟩).2 = ⟨r, 0⟩ ∧ ∀ c ∈ r, c < 256 := by
  have h2 : (Wr.num (Wr.num ⟨l, 0⟩ 23).2 8).2.e = 0 := many_zero _ h
  have h1 : (Wr.num ⟨l, 0⟩ 23).2.e = 0 := num_zero h2
  obtain ⟨r1, e1, f1, b1⟩ := num_inv hb h1
  rw [f1] at h2
  obtain ⟨r2, e2, f2, b2⟩ := num_inv b1 h2
  have h3 : (Wr.many (Wr.num ⟨r1, 0⟩ 8).1 ⟨r2, 0⟩ 47).2.e = 0 := by
    have h := h
    unfold rdPr at h
    simp only [f1, f2] at h
    exact h
  obtain ⟨r3, e3, f3, b3⟩ := many_inv _ b2 h3
  refine ⟨r3, ?_, ?_, b3⟩
  · unfold rdPr prNums
    simp only [f1, f2, encs_cons, List.map_map, List.length_map, Wr.many_len]
    have ec : (Wr.many (Wr.num ⟨r1, 0⟩ 8).1 ⟨r2, 0⟩ 47).1.map (code ∘ sym) = (Wr.many (Wr.num ⟨r1, 0⟩ 8).1 ⟨r2, 0⟩ 47).1 := by
      exact (List.map_congr_left (f := code ∘ sym) (g := id) fun n _ => code_sym n).trans (List.map_id _)
    rw [ec, Int.toNat_natCast, List.append_assoc, List.append_assoc, ← e3, ← e2, ← e1]
  · unfold rdPr
    simp only [f1, f2]
    exact f3
theorem rdPrs_zero : ∀ (k : Nat) {s : Wr.St}, (rdPrs k s).2.e = 0 → s.e = 0
  | 0, _, h => h
  | k + 1, _, h => rdPr_zero (rdPrs_zero k h)
theorem rdPrs_len : ∀ (k : Nat) (s : Wr.St), (rdPrs k s).1.length = k
  | 0, _ => rfl
  | k + 1, s => by simp only [rdPrs, List.length_cons, rdPrs_len k]
theorem rdPrs_inv : ∀ (k : Nat) {l : List Nat} (_ : ∀ c ∈ l, c < 256), (rdPrs k ⟨l, 0⟩).2.e = 0 →
    ∃ r, l = encs ((rdPrs k ⟨l, 0⟩).1.flatMap prNums) ++ r ∧ (rdPrs k ⟨l, 0⟩).2 = ⟨r, 0⟩ ∧ ∀ c ∈ r, c < 256
  | 0, l, hb, _ => ⟨l, rfl, rfl, hb⟩
  | k + 1, l, hb, h => by
    have h0 : (rdPr ⟨l, 0⟩).2.e = 0 := rdPrs_zero k h
    obtain ⟨r, e1, e2, hr⟩ := rdPr_inv hb h0
    have h' : (rdPrs k ⟨r, 0⟩).2.e = 0 := by
      have h : (rdPrs k (rdPr ⟨l, 0⟩).2).2.e = 0 := h
      rw [e2] at h; exact h
    obtain ⟨r', e3, e4, hr'⟩ := rdPrs_inv k hr h'
    refine ⟨r', ?_, ?_, hr'⟩
    · show l = encs (((rdPr ⟨l, 0⟩).1 :: (rdPrs k (rdPr ⟨l, 0⟩).2).1).flatMap prNums) ++ r'
      rw [List.flatMap_cons, encs_append, e2, List.append_assoc, ← e3, ← e1]
    · show (rdPrs k (rdPr ⟨l, 0⟩).2).2 = _
      rw [e2]; exact e4

/-- A grammar's numbers, as they are read: what is left behind the first four, and the grammar. -/
def st1 (l : List Nat) : Wr.St := (Wr.num ⟨l, 0⟩ 16).2
def st2 (l : List Nat) : Wr.St := (Wr.num (st1 l) 24).2
def st3 (l : List Nat) : Wr.St := (Wr.num (st2 l) 23).2
def st4 (l : List Nat) : Wr.St := (Wr.num (st3 l) 60).2
def rdGm (l : List Nat) : Gm × Wr.St :=
  (⟨((Wr.num ⟨l, 0⟩ 16).1 : Int), ((Wr.num (st1 l) 24).1 : Int), ((Wr.num (st2 l) 23).1 : Int), (rdPrs (Wr.num (st3 l) 60).1 (st4 l)).1⟩, (rdPrs (Wr.num (st3 l) 60).1 (st4 l)).2)
/-- A grammar is read as it was written, whatever stands behind. -/
theorem rdGm_back (g : Gm) (h : Ok g) (r : List Nat) : rdGm (gmBytes g ++ r) = (g, ⟨r, 0⟩) := by
  obtain ⟨h1, h2, h3, h4, h5, h6, h7, h8⟩ := h
  have e : gmBytes g ++ r = Vy.enc g.terms.toNat ++ (Vy.enc g.nons.toNat ++ (Vy.enc g.start.toNat ++ (Vy.enc g.prods.length ++ (encs (g.prods.flatMap prNums) ++ r)))) := by
    simp [gmBytes, gmNums, encs_cons]
  have n1 := Wr.num_enc g.terms.toNat 16 (by omega) (by omega) (Vy.enc g.nons.toNat ++ (Vy.enc g.start.toNat ++ (Vy.enc g.prods.length ++ (encs (g.prods.flatMap prNums) ++ r))))
  have n2 := Wr.num_enc g.nons.toNat 24 (by omega) (by omega) (Vy.enc g.start.toNat ++ (Vy.enc g.prods.length ++ (encs (g.prods.flatMap prNums) ++ r)))
  have n3 := Wr.num_enc g.start.toNat 23 (by omega) (by omega) (Vy.enc g.prods.length ++ (encs (g.prods.flatMap prNums) ++ r))
  have n4 := Wr.num_enc g.prods.length 60 (by omega) h7 (encs (g.prods.flatMap prNums) ++ r)
  have n5 := rdPrs_back g h4 h2 g.prods h8 r
  rw [e]
  simp only [rdGm, st4, st3, st2, st1, n1, n2, n3, n4, n5]
  rw [Int.toNat_of_nonneg h1, Int.toNat_of_nonneg h5, Int.toNat_of_nonneg (by omega : 0 ≤ g.nons)]
/-- Bytes of which a grammar was read, to their end and without fault, are its bytes. -/
theorem rdGm_inv {l : List Nat} (hb : ∀ c ∈ l, c < 256) (h : (rdGm l).2 = ⟨[], 0⟩) : l = gmBytes (rdGm l).1 := by
  have h5 : (rdPrs (Wr.num (st3 l) 60).1 (st4 l)).2.e = 0 := by
    have h' : (rdPrs (Wr.num (st3 l) 60).1 (st4 l)).2 = ⟨[], 0⟩ := h
    rw [h']
  have h4 : (Wr.num (st3 l) 60).2.e = 0 := rdPrs_zero _ h5
  have h3 : (Wr.num (st2 l) 23).2.e = 0 := num_zero h4
  have h2 : (Wr.num (st1 l) 24).2.e = 0 := num_zero h3
  have h1 : (Wr.num ⟨l, 0⟩ 16).2.e = 0 := num_zero h2
  obtain ⟨r1, e1, f1, b1⟩ := num_inv hb h1
  have s1 : st1 l = ⟨r1, 0⟩ := f1
  rw [s1] at h2
  obtain ⟨r2, e2, f2, b2⟩ := num_inv b1 h2
  have s2 : st2 l = ⟨r2, 0⟩ := by unfold st2; rw [s1]; exact f2
  rw [s2] at h3
  obtain ⟨r3, e3, f3, b3⟩ := num_inv b2 h3
  have s3 : st3 l = ⟨r3, 0⟩ := by unfold st3; rw [s2]; exact f3
  rw [s3] at h4
  obtain ⟨r4, e4, f4, b4⟩ := num_inv b3 h4
  have s4 : st4 l = ⟨r4, 0⟩ := by unfold st4; rw [s3]; exact f4
  rw [s3, s4] at h5
  obtain ⟨r5, e5, f5, _⟩ := rdPrs_inv _ b4 h5
  have h' : (rdPrs (Wr.num (st3 l) 60).1 (st4 l)).2 = ⟨[], 0⟩ := h
  rw [s3, s4, f5] at h'
  have hr5 : r5 = [] := by injection h'
  subst hr5
  rw [List.append_nil] at e5
  have e : gmBytes (rdGm l).1 = Vy.enc (Wr.num ⟨l, 0⟩ 16).1 ++ (Vy.enc (Wr.num ⟨r1, 0⟩ 24).1 ++ (Vy.enc (Wr.num ⟨r2, 0⟩ 23).1 ++ (Vy.enc (Wr.num ⟨r3, 0⟩ 60).1 ++ encs ((rdPrs (Wr.num ⟨r3, 0⟩ 60).1 ⟨r4, 0⟩).1.flatMap prNums)))) := by
    simp only [gmBytes, gmNums, rdGm, s1, s2, s3, s4, encs_cons, Int.toNat_natCast, rdPrs_len]
  rw [e, ← e5, ← e4, ← e3, ← e2, ← e1]
/-- Unlike grammars have unlike bytes. -/
theorem gmBytes_inj {g h : Gm} (hg : Ok g) (hh : Ok h) (e : gmBytes g = gmBytes h) : g = h := by
  have a := rdGm_back g hg []
  have b := rdGm_back h hh []
  rw [e, b] at a
  injection a with a _
  exact a.symm
end Go.Proofs.Ytdfhhbncmdpoeaa.Gr
/- Plain facts on what comes of symbols, and on tables that say which part of a word comes of which nonterminal. No program is named here. -/
namespace Go.Proofs.Ytdfhhbncmdpoeaa.Cf
open Gr (Sy Pr Gm okSy okPr Ok)

/-- Which word comes of symbols, one behind the other. -/
inductive Cm (g : Gm) : List Sy → List Int → Prop
  | nil : Cm g [] []
  | tok {s : Sy} {l : List Sy} {w : List Int} : s.non = false → Cm g l w → Cm g (s :: l) (s.n :: w)
  | non {s : Sy} {l : List Sy} {u v : List Int} {p : Pr} : s.non = true → p ∈ g.prods → p.left = s.n → Cm g p.right u → Cm g l v → Cm g (s :: l) (u ++ v)

theorem Cm.append {g : Gm} {l : List Sy} {u : List Int} (h : Cm g l u) {m : List Sy} {v : List Int} (hm : Cm g m v) : Cm g (l ++ m) (u ++ v) := by
  induction h with
  | nil => exact hm
  | tok hs _ ih => exact .tok hs ih
  | non hs hp hl hr _ _ ih2 => rw [List.append_assoc]; exact .non hs hp hl hr ih2
theorem Cm.nil_inv {g : Gm} {w : List Int} (h : Cm g [] w) : w = [] := by cases h; rfl
theorem Cm.tok_inv {g : Gm} {s : Sy} {l : List Sy} {w : List Int} (h : Cm g (s :: l) w) (hs : s.non = false) : ∃ v, w = s.n :: v ∧ Cm g l v := by
  cases h with
  | tok _ h => exact ⟨_, rfl, h⟩
  | non h1 => rw [hs] at h1; exact absurd h1 (by decide)
theorem Cm.non_inv {g : Gm} {s : Sy} {l : List Sy} {w : List Int} (h : Cm g (s :: l) w) (hs : s.non = true) : ∃ p u v, w = u ++ v ∧ p ∈ g.prods ∧ p.left = s.n ∧ Cm g p.right u ∧ Cm g l v := by
  cases h with
  | tok h1 => rw [hs] at h1; exact absurd h1 (by decide)
  | non _ hp hl hr h => exact ⟨_, _, _, rfl, hp, hl, hr, h⟩
theorem Cm.split {g : Gm} : ∀ {l m : List Sy} {w : List Int}, Cm g (l ++ m) w → ∃ u v, w = u ++ v ∧ Cm g l u ∧ Cm g m v
  | [], _, w, h => ⟨[], w, rfl, .nil, h⟩
  | s :: l, m, w, h => by
    rw [List.cons_append] at h
    cases e : s.non with
    | false =>
      obtain ⟨v, rfl, hv⟩ := h.tok_inv e
      obtain ⟨u1, v1, rfl, h1, h2⟩ := Cm.split hv
      exact ⟨s.n :: u1, v1, rfl, .tok e h1, h2⟩
    | true =>
      obtain ⟨p, u, v, rfl, hp, hl, hr, hv⟩ := h.non_inv e
      obtain ⟨u1, v1, rfl, h1, h2⟩ := Cm.split hv
      exact ⟨u ++ u1, v1, by rw [List.append_assoc], .non e hp hl hr h1, h2⟩
theorem Cm.one {g : Gm} {n : Int} {w : List Int} : Cm g [⟨true, n⟩] w ↔ ∃ p ∈ g.prods, p.left = n ∧ Cm g p.right w := by
  constructor
  · intro h
    obtain ⟨p, u, v, rfl, hp, hl, hr, hv⟩ := h.non_inv rfl
    rw [hv.nil_inv, List.append_nil]
    exact ⟨p, hp, hl, hr⟩
  · rintro ⟨p, hp, hl, hr⟩
    have := Cm.non (s := ⟨true, n⟩) rfl hp hl hr .nil
    rwa [List.append_nil] at this
theorem Cm.cons {g : Gm} {s : Sy} {l : List Sy} {w : List Int} : Cm g (s :: l) w ↔ ∃ u v, w = u ++ v ∧ Cm g [s] u ∧ Cm g l v := by
  constructor
  · intro h; exact Cm.split (l := [s]) h
  · rintro ⟨u, v, rfl, h1, h2⟩; exact h1.append h2
theorem Cm.token {g : Gm} {n : Int} {w : List Int} : Cm g [⟨false, n⟩] w ↔ w = [n] := by
  constructor
  · intro h
    obtain ⟨v, rfl, hv⟩ := h.tok_inv rfl
    rw [hv.nil_inv]
  · rintro rfl; exact .tok (s := ⟨false, n⟩) rfl .nil

/-- The part of a word from a place to a place. -/
def part (w : List Int) (a b : Nat) : List Int := (w.take b).drop a
theorem part_self (w : List Int) (a : Nat) : part w a a = [] := by
  unfold part
  apply List.drop_eq_nil_of_le
  simp; omega
theorem part_length {w : List Int} {a b : Nat} (hb : b ≤ w.length) : (part w a b).length = b - a := by
  unfold part; rw [List.length_drop, List.length_take, Nat.min_eq_left hb]
theorem part_append (w : List Int) {a c b : Nat} (h1 : a ≤ c) (h2 : c ≤ b) : part w a c ++ part w c b = part w a b := by
  apply List.ext_getElem?
  intro i
  unfold part
  rw [List.getElem?_append]
  simp only [List.length_drop, List.length_take, List.getElem?_drop, List.getElem?_take]
  by_cases hw : c ≤ w.length
  · rw [Nat.min_eq_left hw]
    split
    · rw [if_pos (by omega), if_pos (by omega)]
    · rw [show c + (i - (c - a)) = a + i by omega]
  · split
    · split <;> split <;> first | rfl | omega
    · have e1 : w[c + (i - (min c w.length - a))]? = none := List.getElem?_eq_none (by omega)
      have e2 : w[a + i]? = none := List.getElem?_eq_none (by omega)
      rw [e1, e2]
      simp
theorem part_all (w : List Int) : part w 0 w.length = w := by unfold part; simp
theorem part_zero (w : List Int) (b : Nat) : part w 0 b = w.take b := rfl
theorem part_one {w : List Int} {a : Nat} {x : Int} (h : w[a]? = some x) : part w a (a + 1) = [x] := by
  unfold part
  have hl : a < w.length := by
    rcases Nat.lt_or_ge a w.length with h1 | h1
    · exact h1
    · rw [List.getElem?_eq_none h1] at h; exact absurd h (by simp)
  rw [List.take_add_one, h]
  simp [Nat.min_eq_left (Nat.le_of_lt hl)]
theorem part_cons {w : List Int} {a b : Nat} {x : Int} {r : List Int} (hb : b ≤ w.length) (h : part w a b = x :: r) : w[a]? = some x ∧ part w (a + 1) b = r ∧ a < b := by
  have hab : a < b := by
    rcases Nat.lt_or_ge a b with h1 | h1
    · exact h1
    · have : (part w a b).length = 0 := by rw [part_length hb]; omega
      rw [h] at this; simp at this
  have e : w[a]? = some w[a] := List.getElem?_eq_getElem (by omega)
  have e2 := part_append w (a := a) (c := a + 1) (b := b) (by omega) (by omega)
  rw [part_one e, h] at e2
  have e3 : [w[a]] ++ part w (a + 1) b = w[a] :: part w (a + 1) b := rfl
  rw [e3] at e2
  injection e2 with e4 e5
  rw [e, e4]
  exact ⟨rfl, e5, hab⟩
/-- A part that falls in two does so at a place. -/
theorem part_split {w : List Int} {a b : Nat} {u v : List Int} (hab : a ≤ b) (hb : b ≤ w.length) (h : part w a b = u ++ v) : ∃ c, a ≤ c ∧ c ≤ b ∧ part w a c = u ∧ part w c b = v := by
  have hl : (part w a b).length = u.length + v.length := by rw [h, List.length_append]
  rw [part_length hb] at hl
  have e := part_append w (a := a) (c := a + u.length) (b := b) (by omega) (by omega)
  rw [h] at e
  have e1 : (part w a (a + u.length)).length = u.length := by rw [part_length (by omega)]; omega
  have := List.append_inj e e1
  exact ⟨a + u.length, by omega, by omega, this.1, this.2⟩

/-- A table: does this nonterminal mean the part from here to there? -/
abbrev Tb := Nat → Nat → Nat → Bool
/-- What a symbol means, by a table. -/
def sym (T : Tb) (w : List Int) (s : Sy) (a b : Nat) : Bool := if s.non then T s.n.toNat a b else decide (w[a]? = some s.n ∧ b = a + 1)
/-- What symbols mean, one behind the other. -/
def Ch (T : Tb) (w : List Int) : List Sy → Nat → Nat → Prop
  | [], a, b => a = b
  | s :: l, a, b => ∃ c, a ≤ c ∧ c ≤ w.length ∧ sym T w s a c = true ∧ Ch T w l c b
theorem Ch.append {T : Tb} {w : List Int} : ∀ {l m : List Sy} {a b : Nat}, Ch T w (l ++ m) a b ↔ ∃ c, Ch T w l a c ∧ Ch T w m c b
  | [], m, a, b => by
    constructor
    · intro h; exact ⟨a, rfl, h⟩
    · rintro ⟨c, h1, h2⟩; have h1 : a = c := h1; subst h1; exact h2
  | s :: l, m, a, b => by
    constructor
    · rintro ⟨c, h1, h2, h3, h4⟩
      obtain ⟨d, h5, h6⟩ := Ch.append.mp h4
      exact ⟨d, ⟨c, h1, h2, h3, h5⟩, h6⟩
    · rintro ⟨d, ⟨c, h1, h2, h3, h5⟩, h6⟩
      exact ⟨c, h1, h2, h3, Ch.append.mpr ⟨d, h5, h6⟩⟩
theorem Ch.le {T : Tb} {w : List Int} : ∀ {l : List Sy} {a b : Nat}, Ch T w l a b → a ≤ b
  | [], a, b, h => by have h : a = b := h; omega
  | s :: l, a, b, ⟨c, h1, _, _, h4⟩ => by have := Ch.le h4; omega
theorem Ch.le_len {T : Tb} {w : List Int} : ∀ {l : List Sy} {a b : Nat}, a ≤ w.length → Ch T w l a b → b ≤ w.length
  | [], a, b, h0, h => by have h : a = b := h; omega
  | s :: l, a, b, _, ⟨c, _, h2, _, h4⟩ => Ch.le_len h2 h4
theorem sym_mono {T U : Tb} {w : List Int} {s : Sy} {a b : Nat} (h : ∀ n a b, T n a b = true → U n a b = true) (hs : sym T w s a b = true) : sym U w s a b = true := by
  unfold sym at hs ⊢
  split
  · rename_i e; rw [if_pos e] at hs; exact h _ _ _ hs
  · rename_i e; rw [if_neg e] at hs; exact hs
theorem Ch.mono {T U : Tb} {w : List Int} (h : ∀ n a b, T n a b = true → U n a b = true) : ∀ {l : List Sy} {a b : Nat}, Ch T w l a b → Ch U w l a b
  | [], _, _, hc => hc
  | _ :: _, _, _, ⟨c, h1, h2, h3, h4⟩ => ⟨c, h1, h2, sym_mono h h3, Ch.mono h h4⟩

/-- All that the table says comes. -/
def Sound (g : Gm) (w : List Int) (T : Tb) : Prop := ∀ n a b, T n a b = true → a ≤ b ∧ b ≤ w.length ∧ Cm g [⟨true, (n : Int)⟩] (part w a b)
/-- What a production means by the table, the table says. -/
def Closed (g : Gm) (w : List Int) (T : Tb) : Prop := ∀ p ∈ g.prods, ∀ a b, a ≤ w.length → Ch T w p.right a b → T p.left.toNat a b = true
/-- The symbols of a production of a grammar that may be have numbers from 0 on. -/
def Pos (l : List Sy) : Prop := ∀ s ∈ l, 0 ≤ s.n

theorem sound_sym {g : Gm} {w : List Int} {T : Tb} (hT : Sound g w T) {s : Sy} (hs : 0 ≤ s.n) {a b : Nat} (h : sym T w s a b = true) : a ≤ b ∧ b ≤ w.length ∧ Cm g [s] (part w a b) := by
  obtain ⟨k, n⟩ := s
  have hs : 0 ≤ n := hs
  have en : ((n.toNat : Nat) : Int) = n := Int.toNat_of_nonneg hs
  unfold sym at h
  cases k with
  | true =>
    have h : T n.toNat a b = true := h
    have := hT _ _ _ h
    rw [en] at this
    exact this
  | false =>
    have h : decide (w[a]? = some n ∧ b = a + 1) = true := h
    obtain ⟨h1, rfl⟩ := of_decide_eq_true h
    have hl : a < w.length := by
      rcases Nat.lt_or_ge a w.length with h2 | h2
      · exact h2
      · rw [List.getElem?_eq_none h2] at h1; exact absurd h1 (by simp)
    exact ⟨by omega, by omega, by rw [part_one h1]; exact Cm.token.mpr rfl⟩
theorem sound_ch {g : Gm} {w : List Int} {T : Tb} (hT : Sound g w T) : ∀ {l : List Sy}, Pos l → ∀ {a b : Nat}, a ≤ w.length → Ch T w l a b → Cm g l (part w a b)
  | [], _, a, b, _, h => by
    have h : a = b := h
    subst h
    rw [part_self]; exact .nil
  | s :: l, hp, a, b, ha, ⟨c, h1, h2, h3, h4⟩ => by
    have e := (sound_sym hT (hp s (List.mem_cons_self ..)) h3).2.2
    have r := sound_ch hT (fun x hx => hp x (List.mem_cons_of_mem _ hx)) h2 h4
    rw [← part_append w h1 h4.le]
    exact e.append r
/-- A table that is sound stays so when what a production means is put into it. -/
theorem sound_put {g : Gm} {w : List Int} {T : Tb} (hT : Sound g w T) {p : Pr} (hp : p ∈ g.prods) (h0 : 0 ≤ p.left) (hr : Pos p.right) {a b : Nat} (ha : a ≤ w.length) (h : Ch T w p.right a b) :
    a ≤ b ∧ b ≤ w.length ∧ Cm g [⟨true, ((p.left.toNat : Nat) : Int)⟩] (part w a b) := by
  refine ⟨h.le, h.le_len ha, ?_⟩
  rw [Int.toNat_of_nonneg h0]
  exact Cm.one.mpr ⟨p, hp, rfl, sound_ch hT hr ha h⟩
/-- A closed table says all that comes. -/
theorem closed_all {g : Gm} {w : List Int} {T : Tb} (hT : Closed g w T) {l : List Sy} {u : List Int} (h : Cm g l u) : ∀ {a b : Nat}, a ≤ b → b ≤ w.length → part w a b = u → Ch T w l a b := by
  induction h with
  | nil =>
    intro a b hab hb e
    have := part_length (a := a) hb
    rw [e] at this
    have : b - a = 0 := this.symm
    show a = b
    omega
  | @tok s l v hs _ ih =>
    intro a b hab hb e
    obtain ⟨h1, h2, h3⟩ := part_cons hb e
    refine ⟨a + 1, by omega, by omega, ?_, ih (by omega) hb h2⟩
    unfold sym
    rw [if_neg (by rw [hs]; decide)]
    exact decide_eq_true ⟨h1, rfl⟩
  | @non s l u v p hs hp hl hr _ ih1 ih2 =>
    intro a b hab hb e
    obtain ⟨c, h1, h2, h3, h4⟩ := part_split hab hb e
    refine ⟨c, h1, by omega, ?_, ih2 h2 hb h4⟩
    unfold sym
    rw [if_pos hs, ← hl]
    exact hT p hp a c (by omega) (ih1 h1 (by omega) h3)
theorem table {g : Gm} {w : List Int} {T : Tb} (hs : Sound g w T) (hc : Closed g w T) (n : Nat) {a b : Nat} (hab : a ≤ b) (hb : b ≤ w.length) : T n a b = true ↔ Cm g [⟨true, (n : Int)⟩] (part w a b) := by
  constructor
  · intro h; exact (hs n a b h).2.2
  · intro h
    obtain ⟨c, h1, h2, h3, h4⟩ := closed_all hc h hab hb rfl
    have h4 : c = b := h4
    subst h4
    unfold sym at h3
    have e : (((n : Nat) : Int)).toNat = n := Int.toNat_natCast n
    rw [if_pos rfl] at h3
    have h3 : T ((n : Int)).toNat a c = true := h3
    rwa [e] at h3
theorem table_ch {g : Gm} {w : List Int} {T : Tb} (hs : Sound g w T) (hc : Closed g w T) {l : List Sy} (hl : Pos l) {a b : Nat} (hab : a ≤ b) (hb : b ≤ w.length) : Ch T w l a b ↔ Cm g l (part w a b) :=
  ⟨fun h => sound_ch hs hl (by omega) h, fun h => closed_all hc h hab hb rfl⟩

theorem ok_pos {g : Gm} (hg : Ok g) {p : Pr} (hp : p ∈ g.prods) : 0 ≤ p.left ∧ Pos p.right := by
  obtain ⟨_, _, _, _, _, _, _, h⟩ := hg
  exact ⟨(h p hp).1, fun s hs => ((h p hp).2.2.2 s hs).1⟩

/-- From which places symbols lead to which, place by place: a row of bools for the places so far. -/
def step (T : Tb) (w : List Int) (s : Sy) (at_ : Nat → Bool) (b : Nat) : Bool := (List.range (b + 1)).any fun a => at_ a && sym T w s a b
def walk (T : Tb) (w : List Int) : List Sy → (Nat → Bool) → Nat → Bool
  | [], at_ => at_
  | s :: l, at_ => walk T w l (step T w s at_)
theorem step_iff {T : Tb} {w : List Int} {s : Sy} {at_ : Nat → Bool} {b : Nat} : step T w s at_ b = true ↔ ∃ a, a ≤ b ∧ at_ a = true ∧ sym T w s a b = true := by
  unfold step
  rw [List.any_eq_true]
  constructor
  · rintro ⟨a, ha, h⟩
    rw [List.mem_range] at ha
    rw [Bool.and_eq_true] at h
    exact ⟨a, by omega, h.1, h.2⟩
  · rintro ⟨a, ha, h1, h2⟩
    exact ⟨a, List.mem_range.mpr (by omega), by rw [h1, h2]; rfl⟩
theorem walk_iff {T : Tb} {w : List Int} : ∀ {l : List Sy} {at_ : Nat → Bool} {b : Nat}, b ≤ w.length → (walk T w l at_ b = true ↔ ∃ a, at_ a = true ∧ Ch T w l a b)
  | [], at_, b, _ => by
    constructor
    · intro h; exact ⟨b, h, rfl⟩
    · rintro ⟨a, h1, h2⟩; have h2 : a = b := h2; subst h2; exact h1
  | s :: l, at_, b, hb => by
    show walk T w l (step T w s at_) b = true ↔ _
    rw [walk_iff hb]
    constructor
    · rintro ⟨c, h1, h2⟩
      obtain ⟨a, h3, h4, h5⟩ := step_iff.mp h1
      exact ⟨a, h4, c, h3, Nat.le_trans h2.le hb, h5, h2⟩
    · rintro ⟨a, h1, c, h2, _, h4, h5⟩
      exact ⟨c, step_iff.mpr ⟨a, h2, h1, h4⟩, h5⟩

end Go.Proofs.Ytdfhhbncmdpoeaa.Cf
/- Plain facts on what is found round by round. No program is named here. -/
namespace Go.Proofs.Ytdfhhbncmdpoeaa.Rk

/-- How many of the first numbers are so. -/
def cnt (N : Nat) (f : Nat → Bool) : Nat := (List.range N).countP f
theorem cnt_le (N : Nat) (f : Nat → Bool) : cnt N f ≤ N := by
  have := List.countP_le_length (p := f) (l := List.range N)
  rw [List.length_range] at this
  exact this
theorem cnt_succ (N : Nat) (f : Nat → Bool) : cnt (N + 1) f = cnt N f + (if f N = true then 1 else 0) := by
  unfold cnt
  rw [List.range_succ, List.countP_append]
  congr 1
  rw [List.countP_cons, List.countP_nil, Nat.zero_add]
theorem cnt_mono {f g : Nat → Bool} : ∀ N, (∀ n, n < N → f n = true → g n = true) → cnt N f ≤ cnt N g
  | 0, _ => Nat.le_refl _
  | N + 1, h => by
    rw [cnt_succ, cnt_succ]
    have := cnt_mono N (fun n hn => h n (by omega))
    by_cases e : f N = true
    · rw [if_pos e, if_pos (h N (by omega) e)]; omega
    · rw [if_neg e]; omega
theorem cnt_lt {f g : Nat → Bool} : ∀ N, (∀ n, n < N → f n = true → g n = true) → ∀ m, m < N → f m = false → g m = true → cnt N f < cnt N g
  | 0, _, m, hm, _, _ => absurd hm (by omega)
  | N + 1, h, m, hm, hf, hg => by
    rw [cnt_succ, cnt_succ]
    have h0 := cnt_mono N (fun n hn => h n (by omega))
    by_cases e : m = N
    · subst e
      rw [if_pos hg, if_neg (by rw [hf]; decide)]; omega
    · have := cnt_lt N (fun n hn => h n (by omega)) m (by omega) hf hg
      by_cases e : f N = true
      · rw [if_pos e, if_pos (h N (by omega) e)]; omega
      · rw [if_neg e]; omega
theorem cnt_pos {f : Nat → Bool} {N m : Nat} (hm : m < N) (h : f m = true) : 1 ≤ cnt N f := by
  have := cnt_lt (f := fun _ => false) (g := f) N (fun _ _ h => absurd h (by decide)) m hm rfl h
  omega

/-- What only grows, and stays once it has stayed, stays from round N - c on, if it is of N things, of which c are there at the beginning. -/
theorem settle (N c : Nat) (s : Nat → Nat → Bool) (h0 : c ≤ cnt N (s 0)) (mono : ∀ k n, n < N → s k n = true → s (k + 1) n = true)
    (stab : ∀ k, (∀ n, n < N → s (k + 1) n = s k n) → ∀ n, n < N → s (k + 2) n = s (k + 1) n) : ∀ k, N ≤ k + c → ∀ n, n < N → s (k + 1) n = s k n := by
  have grow : ∀ k, (∀ n, n < N → s (k + 1) n = s k n) ∨ cnt N (s k) < cnt N (s (k + 1)) := by
    intro k
    by_cases h : ∀ n, n < N → s (k + 1) n = s k n
    · exact .inl h
    · right
      obtain ⟨m, hm⟩ := Classical.not_forall.mp h
      obtain ⟨h1, h2⟩ := Classical.not_imp.mp hm
      cases e : s k m with
      | true => exact absurd (by rw [e]; exact mono k m h1 e) h2
      | false =>
        cases e2 : s (k + 1) m with
        | false => exact absurd (by rw [e, e2]) h2
        | true => exact cnt_lt N (mono k) m h1 e e2
  have stay : ∀ j, (∀ n, n < N → s (j + 1) n = s j n) → ∀ i, ∀ n, n < N → s (j + i + 1) n = s (j + i) n := by
    intro j hj i
    induction i with
    | zero => exact hj
    | succ i ih => exact stab (j + i) ih
  have early : ∀ k, (∃ j, j ≤ k ∧ ∀ n, n < N → s (j + 1) n = s j n) ∨ k + 1 + c ≤ cnt N (s (k + 1)) := by
    intro k
    induction k with
    | zero =>
      rcases grow 0 with h | h
      · exact .inl ⟨0, Nat.le_refl _, h⟩
      · right; show 0 + 1 + c ≤ cnt N (s 1); have h : cnt N (s 0) < cnt N (s 1) := h; omega
    | succ k ih =>
      rcases ih with ⟨j, hj, h⟩ | ih
      · exact .inl ⟨j, by omega, h⟩
      · rcases grow (k + 1) with h | h
        · exact .inl ⟨k + 1, Nat.le_refl _, h⟩
        · right; have h : cnt N (s (k + 1)) < cnt N (s (k + 1 + 1)) := h; omega
  intro k hk n hn
  rcases early k with ⟨j, hj, h⟩ | h
  · have := stay j h (k - j) n hn
    rwa [show j + (k - j) = k by omega] at this
  · have := cnt_le N (s (k + 1)); omega

/-- Facts: of each nonterminal a rank, and a production. -/
abbrev Fs := List (Nat × Nat)
def rk (l : Fs) (n : Nat) : Nat := (l.getD n (0, 0)).1
theorem rk_out {l : Fs} {n : Nat} (h : l.length ≤ n) : rk l n = 0 := by
  unfold rk; rw [List.getD_eq_getElem?_getD, List.getElem?_eq_none h]; rfl
theorem rk_lt {l : Fs} {n : Nat} (h : rk l n ≠ 0) : n < l.length := by
  rcases Nat.lt_or_ge n l.length with h1 | h1
  · exact h1
  · exact absurd (rk_out h1) h
theorem ext_getD {a b : Fs} (hl : a.length = b.length) (h : ∀ n, n < a.length → a.getD n (0, 0) = b.getD n (0, 0)) : a = b := by
  apply List.ext_getElem hl
  intro n h1 h2
  have := h n h1
  rw [List.getD_eq_getElem?_getD, List.getD_eq_getElem?_getD, List.getElem?_eq_getElem h1, List.getElem?_eq_getElem h2] at this
  exact this

/-- What is picked for a nonterminal, by what there is, in a round. -/
abbrev Pick := Fs → Nat → Nat → Option Nat
def next (pk : Pick) (l : Fs) (r n : Nat) (f : Nat × Nat) : Nat × Nat :=
  if f.1 ≠ 0 then f else match pk l r n with
    | some i => (r, i)
    | none => f
def round (pk : Pick) (l : Fs) (r : Nat) : Fs := l.mapIdx (next pk l r)
/-- Round by round, from what there is in round b. -/
def rounds (pk : Pick) (base : Fs) (b : Nat) : Nat → Fs
  | 0 => base
  | k + 1 => round pk (rounds pk base b k) (b + k + 1)
theorem rounds_succ (pk : Pick) (base : Fs) (b k : Nat) : rounds pk base b (k + 1) = round pk (rounds pk base b k) (b + k + 1) := rfl
theorem round_length (pk : Pick) (l : Fs) (r : Nat) : (round pk l r).length = l.length := List.length_mapIdx ..
theorem rounds_length (pk : Pick) (base : Fs) (b : Nat) : ∀ k, (rounds pk base b k).length = base.length
  | 0 => rfl
  | k + 1 => by rw [rounds_succ, round_length]; exact rounds_length pk base b k
theorem getD_round (pk : Pick) (l : Fs) (r n : Nat) (hn : n < l.length) : (round pk l r).getD n (0, 0) = next pk l r n (l.getD n (0, 0)) := by
  unfold round
  rw [List.getD_eq_getElem?_getD, List.getD_eq_getElem?_getD, List.getElem?_mapIdx, List.getElem?_eq_getElem hn]
  rfl
theorem next_keep {pk : Pick} {l : Fs} {r n : Nat} {f : Nat × Nat} (h : f.1 ≠ 0) : next pk l r n f = f := by unfold next; rw [if_pos h]
theorem next_some {pk : Pick} {l : Fs} {r n i : Nat} {f : Nat × Nat} (h : f.1 = 0) (hp : pk l r n = some i) : next pk l r n f = (r, i) := by
  unfold next; rw [if_neg (by omega), hp]
theorem next_none {pk : Pick} {l : Fs} {r n : Nat} {f : Nat × Nat} (hp : pk l r n = none) : next pk l r n f = f := by
  unfold next; rw [hp]; split <;> rfl

section
variable (pk : Pick) (base : Fs) (b : Nat)

/-- What has a rank keeps it. -/
theorem keep_succ {k n : Nat} (h : rk (rounds pk base b k) n ≠ 0) : (rounds pk base b (k + 1)).getD n (0, 0) = (rounds pk base b k).getD n (0, 0) := by
  rw [rounds_succ, getD_round _ _ _ _ (rk_lt h)]
  exact next_keep h
theorem keep {k n : Nat} (h : rk (rounds pk base b k) n ≠ 0) : ∀ i, (rounds pk base b (k + i)).getD n (0, 0) = (rounds pk base b k).getD n (0, 0)
  | 0 => rfl
  | i + 1 => by
    have e := keep h i
    have h2 : rk (rounds pk base b (k + i)) n ≠ 0 := by unfold rk; rw [e]; exact h
    have := keep_succ pk base b h2
    rw [e] at this
    exact this
theorem keep_rk {k j n : Nat} (hkj : k ≤ j) (h : rk (rounds pk base b k) n ≠ 0) : rk (rounds pk base b j) n = rk (rounds pk base b k) n := by
  have := keep pk base b h (j - k)
  rw [show k + (j - k) = j by omega] at this
  unfold rk
  rw [this]
/-- Ranks are no more than the rounds. -/
theorem rk_le (hb : ∀ n, rk base n ≤ b) : ∀ k n, rk (rounds pk base b k) n ≤ b + k
  | 0, n => hb n
  | k + 1, n => by
    have ih := rk_le hb k n
    rcases Nat.lt_or_ge n (rounds pk base b k).length with h | h
    · unfold rk at ih ⊢
      rw [rounds_succ, getD_round _ _ _ _ h]
      by_cases h1 : ((rounds pk base b k).getD n (0, 0)).1 = 0
      · cases e : pk (rounds pk base b k) (b + k + 1) n with
        | some i => rw [next_some h1 e]; exact Nat.le_refl _
        | none => rw [next_none e]; omega
      · rw [next_keep h1]; omega
    · rw [rk_out (by rw [rounds_succ, round_length]; exact h)]; omega
/-- What gets its rank in a round gets that round's. -/
theorem new_rk {k n : Nat} (h0 : rk (rounds pk base b k) n = 0) (h1 : rk (rounds pk base b (k + 1)) n ≠ 0) :
    ∃ i, pk (rounds pk base b k) (b + k + 1) n = some i ∧ (rounds pk base b (k + 1)).getD n (0, 0) = (b + k + 1, i) := by
  have hn := rk_lt h1
  rw [rounds_length] at hn
  have e := getD_round pk (rounds pk base b k) (b + k + 1) n (by rw [rounds_length]; exact hn)
  cases ep : pk (rounds pk base b k) (b + k + 1) n with
  | some i => exact ⟨i, rfl, by rw [rounds_succ, e, next_some h0 ep]⟩
  | none =>
    rw [next_none ep] at e
    exact absurd (show rk (rounds pk base b (k + 1)) n = 0 by unfold rk; rw [rounds_succ, e]; exact h0) h1
/-- Who is picked has a rank behind it. -/
theorem got {k n i : Nat} (hn : n < base.length) (hp : pk (rounds pk base b k) (b + k + 1) n = some i) : rk (rounds pk base b (k + 1)) n ≠ 0 := by
  by_cases h0 : rk (rounds pk base b k) n = 0
  · have e := getD_round pk (rounds pk base b k) (b + k + 1) n (by rw [rounds_length]; exact hn)
    rw [next_some h0 hp] at e
    unfold rk
    rw [rounds_succ, e]
    simp
  · rw [keep_rk pk base b (Nat.le_succ k) h0]; exact h0
/-- A rank above b is found in its own round: not earlier, and it stays. -/
theorem early (hb : ∀ n, rk base n ≤ b) : ∀ k n j, rk (rounds pk base b k) n = b + j + 1 → (∀ i, i ≤ j → rk (rounds pk base b i) n = 0) ∧ ∀ i, j < i → (rounds pk base b i).getD n (0, 0) = (rounds pk base b k).getD n (0, 0)
  | 0, n, j, h => by have : rk base n = b + j + 1 := h; have := hb n; omega
  | k + 1, n, j, h => by
    by_cases h0 : rk (rounds pk base b k) n = 0
    · obtain ⟨i, _, e⟩ := new_rk pk base b h0 (by rw [h]; omega)
      have er : b + j + 1 = b + k + 1 := by rw [← h]; unfold rk; rw [e]
      obtain rfl : j = k := by omega
      constructor
      · intro i hi
        by_cases h3 : rk (rounds pk base b i) n = 0
        · exact h3
        · have := keep_rk pk base b (show i ≤ j by omega) h3
          rw [h0] at this; exact absurd this.symm h3
      · intro i hi
        have := keep pk base b (k := j + 1) (n := n) (by rw [h]; omega) (i - (j + 1))
        rw [show j + 1 + (i - (j + 1)) = i by omega] at this
        exact this
    · have e := keep_succ pk base b h0
      have h2 : rk (rounds pk base b k) n = b + j + 1 := by rw [← h]; unfold rk; rw [e]
      rw [e]
      exact early hb k n j h2
/-- All that has a rank up to that of a round is there in it. -/
theorem there (hb : ∀ n, rk base n ≤ b) : ∀ {k j n : Nat}, rk (rounds pk base b k) n ≠ 0 → rk (rounds pk base b k) n ≤ b + j → (rounds pk base b j).getD n (0, 0) = (rounds pk base b k).getD n (0, 0) := by
  intro k j n h0 hj
  rcases Nat.lt_or_ge b (rk (rounds pk base b k) n) with h | h
  · have := (early pk base b hb k n (rk (rounds pk base b k) n - b - 1) (by omega)).2 j (by omega)
    exact this
  · -- a rank of the base
    have key : ∀ k, rk (rounds pk base b k) n ≠ 0 → rk (rounds pk base b k) n ≤ b → rk base n ≠ 0 := by
      intro k
      induction k with
      | zero => intro h _; exact h
      | succ k ih =>
        intro h1 h2
        by_cases h3 : rk (rounds pk base b k) n = 0
        · obtain ⟨i, _, e⟩ := new_rk pk base b h3 h1
          unfold rk at h2
          rw [e] at h2
          have h2 : b + k + 1 ≤ b := h2
          omega
        · have e := keep_rk pk base b (Nat.le_succ k) h3
          exact ih h3 (by have e : rk (rounds pk base b (k + 1)) n = _ := e; omega)
    have hbase := key k h0 h
    have e1 := keep pk base b (k := 0) (n := n) hbase k
    have e2 := keep pk base b (k := 0) (n := n) hbase j
    rw [Nat.zero_add] at e1 e2
    rw [e1, e2]
/-- Once nobody gets a rank, nobody does any more. -/
theorem stable {k : Nat} (h : ∀ n, n < base.length → decide (rk (rounds pk base b (k + 1)) n ≠ 0) = decide (rk (rounds pk base b k) n ≠ 0)) : rounds pk base b (k + 1) = rounds pk base b k := by
  apply ext_getD (by rw [rounds_length, rounds_length])
  intro n h1
  rw [rounds_length] at h1
  have hn := h n h1
  by_cases h3 : rk (rounds pk base b k) n = 0
  · have h4 : rk (rounds pk base b (k + 1)) n = 0 := by
      by_cases h4 : rk (rounds pk base b (k + 1)) n = 0
      · exact h4
      · rw [decide_eq_true h4, decide_eq_false (by omega)] at hn; exact absurd hn (by decide)
    rw [rounds_succ, getD_round _ _ _ _ (by rw [rounds_length]; exact h1)]
    cases ep : pk (rounds pk base b k) (b + k + 1) n with
    | none => exact next_none ep
    | some i => exact absurd h4 (got pk base b h1 ep)
  · exact keep_succ pk base b h3
theorem none_of {k : Nat} (h : rounds pk base b (k + 1) = rounds pk base b k) {n : Nat} (hn : n < base.length) (h0 : rk (rounds pk base b k) n = 0) : pk (rounds pk base b k) (b + k + 1) n = none := by
  cases ep : pk (rounds pk base b k) (b + k + 1) n with
  | none => rfl
  | some i => exact absurd (by rw [h]; exact h0) (got pk base b hn ep)
theorem stable_on (hb : ∀ n, rk base n ≤ b) (hpk : ∀ l r r' n, (∀ m, rk l m < r) → r ≤ r' → pk l r n = none → pk l r' n = none)
    {k : Nat} (h : rounds pk base b (k + 1) = rounds pk base b k) : ∀ i, rounds pk base b (k + i) = rounds pk base b k
  | 0 => rfl
  | i + 1 => by
    have ih := stable_on hb hpk h i
    show round pk (rounds pk base b (k + i)) (b + (k + i) + 1) = _
    rw [ih]
    have hl := rounds_length pk base b k
    apply ext_getD (by rw [round_length])
    intro n hn
    rw [round_length, hl] at hn
    rw [getD_round pk _ _ _ (by rw [hl]; exact hn)]
    by_cases h4 : rk (rounds pk base b k) n = 0
    · apply next_none
      apply hpk _ (b + k + 1) _ _ _ (by omega) (none_of pk base b h hn h4)
      intro m
      have := rk_le pk base b hb k m
      omega
    · exact next_keep h4
/-- From as many rounds on as there are nonterminals without a rank nothing turns. -/
theorem settled (hb : ∀ n, rk base n ≤ b) (hpk : ∀ l r r' n, (∀ m, rk l m < r) → r ≤ r' → pk l r n = none → pk l r' n = none)
    {c : Nat} (hc : c ≤ cnt base.length (fun n => decide (rk base n ≠ 0))) : ∀ k, base.length ≤ k + c → rounds pk base b (k + 1) = rounds pk base b k := by
  intro k hk
  apply stable pk base b
  apply settle base.length c (fun k n => decide (rk (rounds pk base b k) n ≠ 0)) hc _ _ k hk
  · intro k n hn h
    have h := of_decide_eq_true h
    apply decide_eq_true
    rw [keep_rk pk base b (Nat.le_succ k) h]
    exact h
  · intro k h n hn
    have e1 := stable pk base b h
    have e2 := stable_on pk base b hb hpk e1 2
    show decide (rk (rounds pk base b (k + 2)) n ≠ 0) = decide (rk (rounds pk base b (k + 1)) n ≠ 0)
    rw [e2, e1]
theorem settled_on (hb : ∀ n, rk base n ≤ b) (hpk : ∀ l r r' n, (∀ m, rk l m < r) → r ≤ r' → pk l r n = none → pk l r' n = none)
    {c : Nat} (hc : c ≤ cnt base.length (fun n => decide (rk base n ≠ 0))) {j k : Nat} (hj : base.length ≤ j + c) (hk : j ≤ k) : rounds pk base b k = rounds pk base b j := by
  have := stable_on pk base b hb hpk (settled pk base b hb hpk hc j hj) (k - j)
  rwa [show j + (k - j) = k by omega] at this
/-- What has no rank has production 0. -/
theorem zero (hz : ∀ n, rk base n = 0 → base.getD n (0, 0) = (0, 0)) : ∀ k n, rk (rounds pk base b k) n = 0 → (rounds pk base b k).getD n (0, 0) = (0, 0)
  | 0, n, h => hz n h
  | k + 1, n, h => by
    have h0 : rk (rounds pk base b k) n = 0 := by
      by_cases h0 : rk (rounds pk base b k) n = 0
      · exact h0
      · rw [keep_rk pk base b (Nat.le_succ k) h0] at h; exact h
    have ih := zero hz k n h0
    rcases Nat.lt_or_ge n base.length with hn | hn
    · cases ep : pk (rounds pk base b k) (b + k + 1) n with
      | none =>
        rw [rounds_succ, getD_round pk _ _ n (by rw [rounds_length]; exact hn), next_none ep, ih]
      | some i => exact absurd h (got pk base b hn ep)
    · rw [List.getD_eq_getElem?_getD, List.getElem?_eq_none (by rw [rounds_length]; exact hn)]; rfl
end
end Go.Proofs.Ytdfhhbncmdpoeaa.Rk
/- Plain facts on ranks. No program is named here. -/
namespace Go.Proofs.Ytdfhhbncmdpoeaa.Rk
open Gr (Sy Pr Gm okSy okPr Ok)

def okS (terms : Bool) (l : Fs) (r : Nat) (s : Sy) : Bool := if s.non then decide (rk l s.n.toNat ≠ 0 ∧ rk l s.n.toNat < r) else terms
def below (terms : Bool) (l : Fs) (r : Nat) (p : Pr) : Bool := p.right.all (okS terms l r)
/-- The first production of a nonterminal that has only what is below. -/
def pick (terms : Bool) (ps : List Pr) : Pick := fun l r n => ps.findIdx? fun p => decide (p.left = (n : Int)) && below terms l r p
def zeros (nons : Nat) : Fs := List.replicate nons (0, 0)
theorem zeros_getD (nons n : Nat) : (zeros nons).getD n (0, 0) = (0, 0) := by
  unfold zeros
  rw [List.getD_eq_getElem?_getD, List.getElem?_replicate]
  split <;> rfl
theorem rk_zeros (nons n : Nat) : rk (zeros nons) n = 0 := by unfold rk; rw [zeros_getD]
theorem zeros_le (nons : Nat) : ∀ n, rk (zeros nons) n ≤ 0 := fun n => by rw [rk_zeros]; exact Nat.le_refl _
theorem zeros_length (nons : Nat) : (zeros nons).length = nons := List.length_replicate ..
/-- The facts, round by round. -/
def rounds' (terms : Bool) (ps : List Pr) (nons k : Nat) : Fs := rounds (pick terms ps) (zeros nons) 0 k
def ranks (terms : Bool) (ps : List Pr) (nons : Nat) : Fs := rounds' terms ps nons nons

section
variable (terms : Bool) (ps : List Pr) (nons : Nat)
theorem okS_more {l : Fs} {r r' : Nat} (h : ∀ n, rk l n < r) (hr : r ≤ r') (s : Sy) : okS terms l r' s = okS terms l r s := by
  unfold okS
  split
  · have := h s.n.toNat
    congr 1
    apply propext
    constructor
    · rintro ⟨h1, _⟩; exact ⟨h1, this⟩
    · rintro ⟨h1, _⟩; exact ⟨h1, by omega⟩
  · rfl
theorem pick_more {l : Fs} {r r' n : Nat} (h : ∀ n, rk l n < r) (hr : r ≤ r') : pick terms ps l r' n = pick terms ps l r n := by
  unfold pick below
  congr 1
  funext p
  congr 1
  apply congrArg (p.right.all)
  funext s
  exact okS_more terms h hr s
theorem pick_none (l : Fs) (r r' n : Nat) (h : ∀ m, rk l m < r) (hr : r ≤ r') (hp : pick terms ps l r n = none) : pick terms ps l r' n = none := by
  rw [pick_more terms ps h hr]; exact hp
theorem ranks_length : (ranks terms ps nons).length = nons := by unfold ranks rounds'; rw [rounds_length, zeros_length]
theorem rounds'_length (k : Nat) : (rounds' terms ps nons k).length = nons := by unfold rounds'; rw [rounds_length, zeros_length]
theorem settled' : ∀ k, nons ≤ k → rounds' terms ps nons k = ranks terms ps nons := by
  intro k hk
  exact settled_on (pick terms ps) (zeros nons) 0 (zeros_le nons) (pick_none terms ps) (Nat.zero_le _) (j := nons) (by rw [zeros_length]; omega) hk
/-- A round that finds nothing ends it: what is there are the facts. -/
theorem ranks_of {k : Nat} (h : rounds' terms ps nons (k + 1) = rounds' terms ps nons k) : rounds' terms ps nons k = ranks terms ps nons := by
  rcases Nat.lt_or_ge k nons with h1 | h1
  · have := stable_on (pick terms ps) (zeros nons) 0 (zeros_le nons) (pick_none terms ps) h (nons - k)
    rw [show k + (nons - k) = nons by omega] at this
    exact this.symm
  · exact settled' terms ps nons k h1
theorem rank_le (n : Nat) : rk (ranks terms ps nons) n ≤ nons := by
  have := rk_le (pick terms ps) (zeros nons) 0 (zeros_le nons) nons n
  unfold ranks rounds'
  omega
/-- What has no rank has production 0. -/
theorem rank_zero (n : Nat) (h : rk (ranks terms ps nons) n = 0) : (ranks terms ps nons).getD n (0, 0) = (0, 0) :=
  zero (pick terms ps) (zeros nons) 0 (fun n _ => zeros_getD nons n) nons n h
theorem pick_some (ps : List Pr) (terms : Bool) {l : Fs} {r n i : Nat} (h : pick terms ps l r n = some i) : ∃ p, ps[i]? = some p ∧ p.left = (n : Int) ∧ (∀ s ∈ p.right, okS terms l r s = true) ∧
    ∀ j q, j < i → ps[j]? = some q → q.left = (n : Int) → below terms l r q = false := by
  unfold pick at h
  rw [List.findIdx?_eq_some_iff_getElem] at h
  obtain ⟨hi, h1, h2⟩ := h
  rw [Bool.and_eq_true, decide_eq_true_eq] at h1
  refine ⟨ps[i], List.getElem?_eq_getElem hi, h1.1, List.all_eq_true.mp h1.2, ?_⟩
  intro j q hj hq hl
  have hjl : j < ps.length := by omega
  rw [List.getElem?_eq_getElem hjl] at hq
  injection hq with hq
  have := h2 j hj
  rw [hq] at this
  rw [decide_eq_true hl, Bool.true_and] at this
  simpa using this
/-- The facts show. -/
theorem shown (n : Nat) (h : rk (ranks terms ps nons) n ≠ 0) : ∃ p, ps[((ranks terms ps nons).getD n (0, 0)).2]? = some p ∧ p.left = (n : Int) ∧ ∀ s ∈ p.right, okS terms (ranks terms ps nons) (rk (ranks terms ps nons) n) s = true := by
  obtain ⟨k, er⟩ : ∃ k, rk (ranks terms ps nons) n = 0 + k + 1 := ⟨rk (ranks terms ps nons) n - 1, by omega⟩
  have e1 := early (pick terms ps) (zeros nons) 0 (zeros_le nons) nons n k er
  have h0 := e1.1 k (Nat.le_refl _)
  have e2 := e1.2 (k + 1) (by omega)
  have h1 : rk (rounds (pick terms ps) (zeros nons) 0 (k + 1)) n ≠ 0 := by unfold rk; rw [e2]; exact h
  obtain ⟨i, hp, e3⟩ := new_rk (pick terms ps) (zeros nons) 0 h0 h1
  obtain ⟨p, hi, hl, hs, _⟩ := pick_some ps terms hp
  have e4 : (ranks terms ps nons).getD n (0, 0) = (0 + k + 1, i) := by unfold ranks rounds'; rw [← e2]; exact e3
  rw [e4]
  refine ⟨p, hi, hl, ?_⟩
  intro s hsm
  rw [er]
  have := hs s hsm
  unfold okS at this ⊢
  split
  · rename_i hn
    rw [if_pos hn] at this
    obtain ⟨h3, h4⟩ := of_decide_eq_true this
    have hle : k ≤ nons := by have := rank_le terms ps nons n; omega
    have := keep_rk (pick terms ps) (zeros nons) 0 hle h3
    apply decide_eq_true
    show rk (rounds (pick terms ps) (zeros nons) 0 nons) s.n.toNat ≠ 0 ∧ rk (rounds (pick terms ps) (zeros nons) 0 nons) s.n.toNat < 0 + k + 1
    rw [this]
    exact ⟨h3, h4⟩
  · rename_i hn
    rw [if_neg hn] at this
    exact this
/-- Who has a production of such as have ranks, has one: in the round behind the last of them at the latest. -/
theorem closed_at {p : Pr} (hp : p ∈ ps) {n : Nat} (hl : p.left = (n : Int)) (hn : n < nons) {r : Nat} (h : ∀ s ∈ p.right, okS terms (ranks terms ps nons) (r + 1) s = true) :
    rk (ranks terms ps nons) n ≠ 0 ∧ rk (ranks terms ps nons) n ≤ r + 1 := by
  have hb : below terms (rounds' terms ps nons r) (0 + r + 1) p = true := by
    apply List.all_eq_true.mpr
    intro s hs
    have := h s hs
    unfold okS at this ⊢
    split
    · rename_i hn
      rw [if_pos hn] at this
      obtain ⟨h3, h4⟩ := of_decide_eq_true this
      have e := there (pick terms ps) (zeros nons) 0 (zeros_le nons) (k := nons) (j := r) h3 (by show rk (ranks terms ps nons) _ ≤ 0 + r; omega)
      have e2 : rk (rounds' terms ps nons r) s.n.toNat = rk (ranks terms ps nons) s.n.toNat := by unfold rk rounds'; rw [e]; rfl
      rw [e2]
      exact decide_eq_true ⟨h3, by omega⟩
    · rename_i hn
      rw [if_neg hn] at this
      exact this
  have key : rk (rounds (pick terms ps) (zeros nons) 0 (r + 1)) n ≠ 0 := by
    cases ep : pick terms ps (rounds (pick terms ps) (zeros nons) 0 r) (0 + r + 1) n with
    | none =>
      unfold pick at ep
      rw [List.findIdx?_eq_none_iff] at ep
      have := ep p hp
      have hb : below terms (rounds (fun l r n => ps.findIdx? fun p => decide (p.left = (n : Int)) && below terms l r p) (zeros nons) 0 r) (0 + r + 1) p = true := hb
      rw [hb, decide_eq_true hl] at this
      exact absurd this (by decide)
    | some i => exact got (pick terms ps) (zeros nons) 0 (by rw [zeros_length]; exact hn) ep
  have hle := rk_le (pick terms ps) (zeros nons) 0 (zeros_le nons) (r + 1) n
  have e : rk (ranks terms ps nons) n = rk (rounds (pick terms ps) (zeros nons) 0 (r + 1)) n := by
    rcases Nat.lt_or_ge nons (r + 1) with h1 | h1
    · rw [← settled' terms ps nons (r + 1) (by omega)]; rfl
    · exact keep_rk (pick terms ps) (zeros nons) 0 h1 key
  rw [e]
  exact ⟨key, by omega⟩
theorem closed {p : Pr} (hp : p ∈ ps) {n : Nat} (hl : p.left = (n : Int)) (hn : n < nons) (h : ∀ s ∈ p.right, (s.non = true → rk (ranks terms ps nons) s.n.toNat ≠ 0) ∧ (s.non = false → terms = true)) :
    rk (ranks terms ps nons) n ≠ 0 := by
  refine (closed_at terms ps nons hp hl hn (r := nons) ?_).1
  intro s hs
  obtain ⟨h1, h2⟩ := h s hs
  unfold okS
  cases e : s.non with
  | true =>
    rw [if_pos rfl]
    have := rank_le terms ps nons s.n.toNat
    exact decide_eq_true ⟨h1 e, by omega⟩
  | false => rw [if_neg (by decide)]; exact h2 e

/-- Facts show, whoever made them: R tells the rank of a nonterminal. -/
def Shows (R : Nat → Int) : Prop := ∀ n, n < nons → 0 < R n → ∃ p ∈ ps, p.left = (n : Int) ∧ ∀ s ∈ p.right, (s.non = true → 0 < R s.n.toNat ∧ R s.n.toNat < R n ∧ s.n.toNat < nons) ∧ (s.non = false → terms = true)
/-- What shows a rank is right: there is one, and none that is greater. -/
theorem shows_least {R : Nat → Int} (h : Shows terms ps nons R) : ∀ (m : Nat) (n : Nat), n < nons → 0 < R n → (R n).toNat ≤ m → rk (ranks terms ps nons) n ≠ 0 ∧ (rk (ranks terms ps nons) n : Int) ≤ R n
  | 0, n, _, h0, hm => by omega
  | m + 1, n, hn, h0, hm => by
    obtain ⟨p, hp, hl, hs⟩ := h n hn h0
    have key := closed_at terms ps nons hp hl hn (r := (R n).toNat - 1) (by
      intro s hsm
      obtain ⟨h1, h2⟩ := hs s hsm
      unfold okS
      cases e : s.non with
      | true =>
        rw [if_pos rfl]
        obtain ⟨h3, h4, h5⟩ := h1 e
        have ih := shows_least h m s.n.toNat h5 h3 (by omega)
        exact decide_eq_true ⟨ih.1, by omega⟩
      | false => rw [if_neg (by decide)]; exact h2 e)
    refine ⟨key.1, ?_⟩
    have := key.2
    omega
end

section
variable {g : Gm}
open Cf (Cm Pos)

/-- Of whom a word comes has a rank with terminals; of whom nothing may come, one without. -/
theorem cm_ranks (hg : Ok g) {l : List Sy} {w : List Int} (h : Cm g l w) : ∀ s ∈ l, s.non = true → rk (ranks true g.prods g.nons.toNat) s.n.toNat ≠ 0 := by
  induction h with
  | nil => intro s hs; exact absurd hs (by simp)
  | tok hs _ ih =>
    intro x hx hn
    rcases List.mem_cons.mp hx with rfl | hx
    · rw [hs] at hn; exact absurd hn (by decide)
    · exact ih x hx hn
  | @non s l u v p hs hp hl hr _ ih1 ih2 =>
    intro x hx hn
    rcases List.mem_cons.mp hx with rfl | hx
    · have hok := hg.2.2.2.2.2.2.2 p hp
      have h0 : 0 ≤ p.left := hok.1
      have h1 : p.left < g.nons := hok.2.1
      have e : p.left = ((x.n.toNat : Nat) : Int) := by rw [← hl, Int.toNat_of_nonneg h0]
      refine closed true g.prods g.nons.toNat hp e (by omega) ?_
      intro s hs
      exact ⟨ih1 s hs, fun _ => rfl⟩
    · exact ih2 x hx hn
theorem cm_null (hg : Ok g) {l : List Sy} {w : List Int} (h : Cm g l w) : w = [] → ∀ s ∈ l, s.non = true ∧ rk (ranks false g.prods g.nons.toNat) s.n.toNat ≠ 0 := by
  induction h with
  | nil => intro _ s hs; exact absurd hs (by simp)
  | tok hs _ ih => intro e; exact absurd e (by simp)
  | @non s l u v p hs hp hl hr _ ih1 ih2 =>
    intro e x hx
    have eu : u = [] := (List.append_eq_nil_iff.mp e).1
    have ev : v = [] := (List.append_eq_nil_iff.mp e).2
    rcases List.mem_cons.mp hx with rfl | hx
    · refine ⟨hs, ?_⟩
      have hok := hg.2.2.2.2.2.2.2 p hp
      have h0 : 0 ≤ p.left := hok.1
      have h1 : p.left < g.nons := hok.2.1
      have e : p.left = ((x.n.toNat : Nat) : Int) := by rw [← hl, Int.toNat_of_nonneg h0]
      refine closed false g.prods g.nons.toNat hp e (by omega) ?_
      intro s hs
      have := ih1 eu s hs
      exact ⟨fun _ => this.2, fun hf => by rw [this.1] at hf; exact absurd hf (by decide)⟩
    · exact ih2 ev x hx
/-- Of symbols that all have a rank something comes: with terminals a word, without them nothing. -/
theorem ranks_cm (hg : Ok g) (terms : Bool) : ∀ (m : Nat) (n : Nat), rk (ranks terms g.prods g.nons.toNat) n ≠ 0 → rk (ranks terms g.prods g.nons.toNat) n ≤ m → ∃ w, Cm g [⟨true, (n : Int)⟩] w ∧ (terms = false → w = [])
  | 0, n, h0, hm => by omega
  | m + 1, n, h0, hm => by
    obtain ⟨p, hi, hl, hs⟩ := shown terms g.prods g.nons.toNat n h0
    have hp : p ∈ g.prods := List.mem_of_getElem? hi
    have hpos := (Cf.ok_pos hg hp).2
    have all : ∀ l : List Sy, (∀ s ∈ l, s ∈ p.right) → ∃ w, Cm g l w ∧ (terms = false → w = []) := by
      intro l
      induction l with
      | nil => intro _; exact ⟨[], .nil, fun _ => rfl⟩
      | cons s l ih =>
        intro hl
        obtain ⟨v, hv, hv0⟩ := ih (fun x hx => hl x (List.mem_cons_of_mem _ hx))
        have hsm := hl s (List.mem_cons_self ..)
        have hso := hs s hsm
        unfold okS at hso
        cases e : s.non with
        | true =>
          rw [if_pos e] at hso
          obtain ⟨h3, h4⟩ := of_decide_eq_true hso
          obtain ⟨u, hu, hu0⟩ := ranks_cm hg terms m s.n.toNat h3 (by omega)
          rw [Int.toNat_of_nonneg (hpos s hsm)] at hu
          have es : s = ⟨true, s.n⟩ := by rw [← e]
          refine ⟨u ++ v, ?_, ?_⟩
          · have := hu.append hv
            rw [← es] at this
            exact this
          · intro ht; rw [hu0 ht, hv0 ht]; rfl
        | false =>
          rw [if_neg (by rw [e]; decide)] at hso
          exact ⟨s.n :: v, .tok e hv, fun ht => by rw [ht] at hso; exact absurd hso (by decide)⟩
    obtain ⟨w, hw, hw0⟩ := all p.right (fun _ h => h)
    exact ⟨w, Cm.one.mpr ⟨p, hp, hl, hw⟩, hw0⟩
theorem null_iff (hg : Ok g) (n : Nat) : rk (ranks false g.prods g.nons.toNat) n ≠ 0 ↔ Cm g [⟨true, (n : Int)⟩] [] := by
  constructor
  · intro h
    obtain ⟨w, hw, h0⟩ := ranks_cm hg false _ n h (Nat.le_refl _)
    rw [h0 rfl] at hw
    exact hw
  · intro h
    have := (cm_null hg h rfl _ (List.mem_cons_self ..)).2
    have e : (((n : Nat) : Int)).toNat = n := Int.toNat_natCast n
    rwa [e] at this
theorem some_iff (hg : Ok g) (n : Nat) : rk (ranks true g.prods g.nons.toNat) n ≠ 0 ↔ ∃ w, Cm g [⟨true, (n : Int)⟩] w := by
  constructor
  · intro h
    obtain ⟨w, hw, _⟩ := ranks_cm hg true _ n h (Nat.le_refl _)
    exact ⟨w, hw⟩
  · rintro ⟨w, h⟩
    have := cm_ranks hg h _ (List.mem_cons_self ..) rfl
    have e : (((n : Nat) : Int)).toNat = n := Int.toNat_natCast n
    rwa [e] at this
end
end Go.Proofs.Ytdfhhbncmdpoeaa.Rk
/- Plain facts on sets of terminals: with what words begin, and what follows. No program is named here. -/
namespace Go.Proofs.Ytdfhhbncmdpoeaa.Fi
open Gr (Sy Pr Gm okSy okPr Ok)
open Cf (Cm)

/-- A step puts one thing in, if what there is says so. -/
abbrev St := Nat × ((Nat → Bool) → Bool)
def put (c : Nat → Bool) (m : Nat) (v : Bool) : Nat → Bool := fun n => c n || (decide (n = m) && v)
def run (L : List St) (c : Nat → Bool) : Nat → Bool := L.foldl (fun c s => put c s.1 (s.2 c)) c
theorem run_nil (c : Nat → Bool) : run [] c = c := rfl
theorem run_cons (s : St) (L : List St) (c : Nat → Bool) : run (s :: L) c = run L (put c s.1 (s.2 c)) := rfl
theorem run_append (L M : List St) (c : Nat → Bool) : run (L ++ M) c = run M (run L c) := List.foldl_append ..
/-- All that is there among the first N is there, too. -/
def Le (N : Nat) (c d : Nat → Bool) : Prop := ∀ n, n < N → c n = true → d n = true
/-- Steps that hang on the first N alone, and say no less of more. -/
def Mono (N : Nat) (L : List St) : Prop := ∀ s ∈ L, s.1 < N ∧ ∀ c d, Le N c d → s.2 c = true → s.2 d = true
/-- Nothing is to be put in. -/
def Shut (L : List St) (c : Nat → Bool) : Prop := ∀ s ∈ L, s.2 c = true → c s.1 = true

theorem put_grow {c : Nat → Bool} {m n : Nat} {v : Bool} (h : c n = true) : put c m v n = true := by unfold put; rw [h]; rfl
theorem put_here {c : Nat → Bool} {m : Nat} {v : Bool} (h : v = true) : put c m v m = true := by unfold put; rw [h]; simp
theorem put_inv {c : Nat → Bool} {m n : Nat} {v : Bool} (h : put c m v n = true) : c n = true ∨ (n = m ∧ v = true) := by
  unfold put at h
  rcases Bool.or_eq_true_iff.mp h with h | h
  · exact .inl h
  · rw [Bool.and_eq_true, decide_eq_true_eq] at h; exact .inr h
theorem run_grow {n : Nat} : ∀ (L : List St) {c : Nat → Bool}, c n = true → run L c n = true
  | [], _, h => h
  | s :: L, c, h => by rw [run_cons]; exact run_grow L (put_grow h)
theorem run_step {N : Nat} : ∀ {L : List St} {c : Nat → Bool}, Mono N L → ∀ s ∈ L, s.2 c = true → run L c s.1 = true
  | [], _, _, s, hs, _ => absurd hs (by simp)
  | s' :: L, c, hm, s, hs, h => by
    rw [run_cons]
    rcases List.mem_cons.mp hs with rfl | hs2
    · exact run_grow L (put_here h)
    · exact run_step (fun x hx => hm x (List.mem_cons_of_mem _ hx)) s hs2 ((hm s hs).2 _ _ (fun n _ hn => put_grow hn) h)
theorem run_le {N : Nat} : ∀ {L : List St} {c d : Nat → Bool}, Mono N L → Shut L d → Le N c d → Le N (run L c) d
  | [], _, _, _, _, h => h
  | s :: L, c, d, hm, hd, h => by
    rw [run_cons]
    refine run_le (fun x hx => hm x (List.mem_cons_of_mem _ hx)) (fun x hx => hd x (List.mem_cons_of_mem _ hx)) ?_
    intro n hn hp
    rcases put_inv hp with h1 | ⟨h1, h2⟩
    · exact h n hn h1
    · subst h1
      exact hd s (List.mem_cons_self ..) ((hm s (List.mem_cons_self ..)).2 c d h h2)
theorem shut_of {N : Nat} {L : List St} {c : Nat → Bool} (hm : Mono N L) (h : ∀ n, n < N → run L c n = c n) : Shut L c := by
  intro s hs hv
  rw [← h s.1 (hm s hs).1]
  exact run_step hm s hs hv
theorem run_shut {N : Nat} {L : List St} {c : Nat → Bool} (hm : Mono N L) (h : Shut L c) : ∀ n, n < N → run L c n = c n := by
  intro n hn
  cases e : c n with
  | true => exact run_grow L e
  | false =>
    cases e2 : run L c n with
    | false => rfl
    | true => rw [run_le hm h (fun _ _ h => h) n hn e2] at e; exact absurd e (by decide)
theorem shut_same {N : Nat} {L : List St} {c d : Nat → Bool} (hm : Mono N L) (h : ∀ n, n < N → c n = d n) (hc : Shut L c) : Shut L d := by
  intro s hs hv
  rw [← h s.1 (hm s hs).1]
  exact hc s hs ((hm s hs).2 d c (fun n hn e => by rw [h n hn]; exact e) hv)
/-- Over and over. -/
def over (L : List St) (c : Nat → Bool) : Nat → Nat → Bool
  | 0 => c
  | k + 1 => run L (over L c k)
theorem over_le {N : Nat} {L : List St} {c d : Nat → Bool} (hm : Mono N L) (hd : Shut L d) (h : Le N c d) : ∀ k, Le N (over L c k) d
  | 0 => h
  | k + 1 => run_le hm hd (over_le hm hd h k)
theorem over_grow {L : List St} {c : Nat → Bool} {n : Nat} (h : c n = true) : ∀ k, over L c k n = true
  | 0 => h
  | k + 1 => run_grow L (over_grow h k)
theorem over_shut {N : Nat} {L : List St} (hm : Mono N L) (c : Nat → Bool) {k : Nat} (hk : N ≤ k) : Shut L (over L c k) := by
  apply shut_of hm
  apply Rk.settle N 0 (fun k n => over L c k n) (Nat.zero_le _) _ _ k (by omega)
  · intro k n _ h; exact run_grow L h
  · intro k h n hn
    have h1 : Shut L (over L c k) := shut_of hm h
    have h2 : Shut L (over L c (k + 1)) := shut_same hm (fun n hn => (h n hn).symm) h1
    exact run_shut hm h2 n hn
/-- The least that is shut, and has what there was. -/
def Least (N : Nat) (L : List St) (c d : Nat → Bool) : Prop := Shut L d ∧ Le N c d ∧ ∀ x, Shut L x → Le N c x → Le N d x
theorem least_over {N : Nat} {L : List St} (hm : Mono N L) (c : Nat → Bool) {k : Nat} (hk : N ≤ k) : Least N L c (over L c k) :=
  ⟨over_shut hm c hk, fun _ _ h => over_grow h k, fun _ hx h => over_le hm hx h k⟩
theorem least_same {N : Nat} {L : List St} {c d e : Nat → Bool} (hd : Least N L c d) (he : Least N L c e) : ∀ n, n < N → d n = e n := by
  intro n hn
  cases h : d n with
  | true => exact (hd.2.2 e he.1 he.2.1 n hn h).symm
  | false =>
    cases h2 : e n with
    | false => rfl
    | true => rw [he.2.2 d hd.1 hd.2.1 n hn h2] at h; exact absurd h (by decide)

/-- Sets: is this terminal in that nonterminal's? -/
abbrev Tb := Nat → Nat → Bool
/-- Of symbols, by sets, and by who is nullable. -/
def of (F : Tb) (nl : Nat → Bool) : List Sy → Nat → Bool
  | [], _ => false
  | s :: l, t => if s.non then F s.n.toNat t || (nl s.n.toNat && of F nl l t) else decide (s.n = (t : Int))
def allNull (nl : Nat → Bool) (l : List Sy) : Bool := l.all fun s => s.non && nl s.n.toNat
theorem of_mono {F G : Tb} {nl : Nat → Bool} {t N : Nat} (h : ∀ n, n < N → F n t = true → G n t = true) : ∀ {l : List Sy}, (∀ s ∈ l, s.non = true → s.n.toNat < N) → of F nl l t = true → of G nl l t = true
  | [], _, hf => hf
  | s :: l, hl, hf => by
    unfold of at hf ⊢
    cases e : s.non with
    | true =>
      rw [if_pos e] at hf
      rw [if_pos rfl]
      rcases Bool.or_eq_true_iff.mp hf with h1 | h1
      · rw [h _ (hl s (List.mem_cons_self ..) e) h1]; rfl
      · rw [Bool.and_eq_true] at h1
        rw [h1.1, of_mono h (fun x hx => hl x (List.mem_cons_of_mem _ hx)) h1.2]; simp
    | false =>
      rw [if_neg (by rw [e]; decide)] at hf
      rw [if_neg (by decide)]
      exact hf
theorem of_cons (F : Tb) (nl : Nat → Bool) (s : Sy) (l : List Sy) (t : Nat) : of F nl (s :: l) t = if s.non then F s.n.toNat t || (nl s.n.toNat && of F nl l t) else decide (s.n = (t : Int)) := rfl
theorem of_append {F : Tb} {nl : Nat → Bool} {t : Nat} : ∀ {l m : List Sy}, of F nl (l ++ m) t = (of F nl l t || (allNull nl l && of F nl m t))
  | [], m => by simp [of, allNull]
  | s :: l, m => by
    rw [List.cons_append, of_cons, of_cons]
    have ih := of_append (F := F) (nl := nl) (t := t) (l := l) (m := m)
    cases e : s.non with
    | true =>
      rw [if_pos rfl, if_pos rfl, ih]
      have ea : allNull nl (s :: l) = (nl s.n.toNat && allNull nl l) := by unfold allNull; rw [List.all_cons, e, Bool.true_and]
      rw [ea]
      cases F s.n.toNat t <;> cases nl s.n.toNat <;> simp
    | false =>
      rw [if_neg (by decide), if_neg (by decide)]
      have ea : allNull nl (s :: l) = false := by unfold allNull; rw [List.all_cons, e]; rfl
      rw [ea]; simp
theorem allNull_append (nl : Nat → Bool) (l m : List Sy) : allNull nl (l ++ m) = (allNull nl l && allNull nl m) := by unfold allNull; rw [List.all_append]

/-- With what begins what comes of nonterminals: the steps of one terminal. -/
def fSteps (ps : List Pr) (nl : Nat → Bool) (t : Nat) : List St := ps.map fun p => (p.left.toNat, fun c => of (fun n _ => c n) nl p.right t)
theorem of_col (F : Tb) (nl : Nat → Bool) (t : Nat) : ∀ l, of (fun n _ => F n t) nl l t = of F nl l t
  | [] => rfl
  | s :: l => by unfold of; rw [of_col F nl t l]
theorem ok_nums {g : Gm} (hg : Ok g) {p : Pr} (hp : p ∈ g.prods) : p.left.toNat < g.nons.toNat ∧ (∀ s ∈ p.right, s.non = true → s.n.toNat < g.nons.toNat) ∧ ∀ s ∈ p.right, s.non = false → 0 ≤ s.n ∧ s.n < g.terms := by
  have h := hg.2.2.2.2.2.2.2 p hp
  have h0 := h.1
  have h1 := h.2.1
  refine ⟨by omega, ?_, ?_⟩
  · intro s hs hn
    have h2 := h.2.2.2 s hs
    have h3 := h2.2.1 hn
    have h4 := h2.1
    omega
  · intro s hs hn
    have h2 := h.2.2.2 s hs
    exact ⟨h2.1, h2.2.2 hn⟩
theorem fMono {g : Gm} (hg : Ok g) (nl : Nat → Bool) (t : Nat) : Mono g.nons.toNat (fSteps g.prods nl t) := by
  intro s hs
  unfold fSteps at hs
  rw [List.mem_map] at hs
  obtain ⟨p, hp, rfl⟩ := hs
  obtain ⟨h1, h2, _⟩ := ok_nums hg hp
  refine ⟨h1, ?_⟩
  intro c d hcd h
  exact of_mono (F := fun n _ => c n) (G := fun n _ => d n) (t := t) (N := g.nons.toNat) hcd h2 h
/-- The sets are the least: of each terminal. -/
def First (g : Gm) (nl : Nat → Bool) (F : Tb) : Prop := ∀ t, Least g.nons.toNat (fSteps g.prods nl t) (fun _ => false) (fun n => F n t)
theorem first_shut {g : Gm} {nl : Nat → Bool} {F : Tb} (h : First g nl F) {p : Pr} (hp : p ∈ g.prods) {t : Nat} (ho : of F nl p.right t = true) : F p.left.toNat t = true := by
  have := (h t).1 (p.left.toNat, fun c => of (fun n _ => c n) nl p.right t) (by unfold fSteps; exact List.mem_map.mpr ⟨p, hp, rfl⟩)
  exact this (by show of (fun n _ => F n t) nl p.right t = true; rw [of_col]; exact ho)
theorem first_same {g : Gm} {nl : Nat → Bool} {F G : Tb} (hF : First g nl F) (hG : First g nl G) {n : Nat} (hn : n < g.nons.toNat) (t : Nat) : F n t = G n t := least_same (hF t) (hG t) n hn
/-- And just so much as must be is in them. -/
theorem first_from {g : Gm} (hg : Ok g) {nl : Nat → Bool} {F : Tb} (h : First g nl F) {n t : Nat} (hn : n < g.nons.toNat) (hf : F n t = true) : ∃ p ∈ g.prods, p.left.toNat = n ∧ of F nl p.right t = true := by
  have := (h t).2.2 (fun n => decide (∃ p ∈ g.prods, p.left.toNat = n ∧ of F nl p.right t = true)) ?_ (fun _ _ h => Bool.noConfusion h) n hn hf
  · exact of_decide_eq_true this
  · intro s hs hv
    unfold fSteps at hs
    rw [List.mem_map] at hs
    obtain ⟨p, hp, rfl⟩ := hs
    apply decide_eq_true
    refine ⟨p, hp, rfl, ?_⟩
    have hv : of (fun n _ => decide (∃ p ∈ g.prods, p.left.toNat = n ∧ of F nl p.right t = true)) nl p.right t = true := hv
    refine of_mono (F := fun n _ => decide (∃ p ∈ g.prods, p.left.toNat = n ∧ of F nl p.right t = true)) (G := F) (t := t) (N := g.nons.toNat) ?_ (ok_nums hg hp).2.1 hv
    intro m _ hm
    obtain ⟨q, hq, rfl, ho⟩ := of_decide_eq_true hm
    exact first_shut h hq ho
theorem first_term {g : Gm} (hg : Ok g) {nl : Nat → Bool} {F : Tb} (h : First g nl F) {n t : Nat} (hn : n < g.nons.toNat) (hf : F n t = true) : (t : Int) < g.terms := by
  have := (h t).2.2 (fun _ => decide ((t : Int) < g.terms)) ?_ (fun _ _ h => Bool.noConfusion h) n hn hf
  · exact of_decide_eq_true this
  · intro s hs hv
    unfold fSteps at hs
    rw [List.mem_map] at hs
    obtain ⟨p, hp, rfl⟩ := hs
    have hv : of (fun _ _ => decide ((t : Int) < g.terms)) nl p.right t = true := hv
    show decide ((t : Int) < g.terms) = true
    have key : ∀ l : List Sy, (∀ s ∈ l, s.non = false → 0 ≤ s.n ∧ s.n < g.terms) → of (fun _ _ => decide ((t : Int) < g.terms)) nl l t = true → (t : Int) < g.terms := by
      intro l
      induction l with
      | nil => intro _ h; exact absurd h (by simp [of])
      | cons s l ih =>
        intro hl hv
        unfold of at hv
        cases e : s.non with
        | true =>
          rw [if_pos e] at hv
          rcases Bool.or_eq_true_iff.mp hv with h1 | h1
          · exact of_decide_eq_true h1
          · rw [Bool.and_eq_true] at h1
            exact ih (fun x hx => hl x (List.mem_cons_of_mem _ hx)) h1.2
        | false =>
          rw [if_neg (by rw [e]; decide)] at hv
          have := of_decide_eq_true hv
          have := (hl s (List.mem_cons_self ..) e).2
          omega
    exact decide_eq_true (key p.right (ok_nums hg hp).2.2 hv)
/-- Who is nullable. -/
def nulls (g : Gm) (n : Nat) : Bool := decide (Rk.rk (Rk.ranks false g.prods g.nons.toNat) n ≠ 0)
theorem nulls_iff {g : Gm} (hg : Ok g) {n : Nat} : nulls g n = true ↔ Cm g [⟨true, (n : Int)⟩] [] := by
  unfold nulls; rw [decide_eq_true_eq]; exact Rk.null_iff hg n
theorem nulls_shut {g : Gm} (hg : Ok g) {p : Pr} (hp : p ∈ g.prods) (h : allNull (nulls g) p.right = true) : nulls g p.left.toNat = true := by
  unfold nulls
  apply decide_eq_true
  have hk := hg.2.2.2.2.2.2.2 p hp
  have h0 : 0 ≤ p.left := hk.1
  have h1 : p.left < g.nons := hk.2.1
  refine Rk.closed false g.prods g.nons.toNat hp (n := p.left.toNat) (Int.toNat_of_nonneg h0).symm (by omega) ?_
  intro s hs
  have := List.all_eq_true.mp h s hs
  rw [Bool.and_eq_true] at this
  exact ⟨fun _ => of_decide_eq_true this.2, fun e => by rw [e] at this; exact absurd this.1 (by decide)⟩
theorem cm_allNull {g : Gm} (hg : Ok g) {l : List Sy} (h : Cm g l []) : allNull (nulls g) l = true := by
  apply List.all_eq_true.mpr
  intro s hs
  have := Rk.cm_null hg h rfl s hs
  rw [this.1, Bool.true_and]
  exact decide_eq_true this.2
/-- With what a word that comes of symbols begins is in their set. -/
theorem first_means {g : Gm} (hg : Ok g) {F : Tb} (hF : First g (nulls g) F) {l : List Sy} {w : List Int} (h : Cm g l w) : ∀ {t : Nat} {v : List Int}, w = (t : Int) :: v → of F (nulls g) l t = true := by
  induction h with
  | nil => intro t v e; exact absurd e (by simp)
  | @tok s l w hs _ _ =>
    intro t v e
    injection e with e1 _
    unfold of
    rw [if_neg (by rw [hs]; decide)]
    exact decide_eq_true e1
  | @non s l u v p hs hp hl hr _ ih1 ih2 =>
    intro t w e
    unfold of
    rw [if_pos hs]
    cases u with
    | nil =>
      have hn : nulls g s.n.toNat = true := by rw [← hl]; exact nulls_shut hg hp (cm_allNull hg hr)
      rw [hn, ih2 e]; simp
    | cons x u =>
      have ex : x = (t : Int) := by injection e
      rw [← hl, first_shut hF hp (ih1 (by rw [ex]))]; rfl

/-- What follows: the steps of one terminal (or of the end). -/
def wStepsOf (F : Tb) (nl : Nat → Bool) (t : Nat) (left : Nat) : List Sy → List St
  | [] => []
  | s :: l => (if s.non then [(s.n.toNat, fun c => of F nl l t || (allNull nl l && c left))] else []) ++ wStepsOf F nl t left l
def wSteps (ps : List Pr) (F : Tb) (nl : Nat → Bool) (t : Nat) : List St := ps.flatMap fun p => wStepsOf F nl t p.left.toNat p.right
def wBase (start : Nat) (t : Nat) : Nat → Bool := fun n => decide (n = start ∧ t = 16)
theorem wStepsOf_mem {F : Tb} {nl : Nat → Bool} {t left : Nat} : ∀ {r : List Sy} {x : St}, x ∈ wStepsOf F nl t left r ↔ ∃ pre s l, r = pre ++ s :: l ∧ s.non = true ∧ x = (s.n.toNat, fun c => of F nl l t || (allNull nl l && c left))
  | [], x => by
    constructor
    · intro h; exact absurd h (by simp [wStepsOf])
    · rintro ⟨pre, s, l, h, _⟩; exact absurd h (by simp)
  | s :: r, x => by
    unfold wStepsOf
    rw [List.mem_append]
    constructor
    · rintro (h | h)
      · cases e : s.non with
        | true =>
          rw [if_pos e, List.mem_singleton] at h
          exact ⟨[], s, r, rfl, e, h⟩
        | false => rw [if_neg (by rw [e]; decide)] at h; exact absurd h (by simp)
      · obtain ⟨pre, s', l, h1, h2, h3⟩ := wStepsOf_mem.mp h
        exact ⟨s :: pre, s', l, by rw [h1]; rfl, h2, h3⟩
    · rintro ⟨pre, s', l, h1, h2, h3⟩
      cases pre with
      | nil =>
        injection h1 with h4 h5
        subst h4; subst h5
        left
        rw [if_pos h2]
        exact List.mem_singleton.mpr h3
      | cons y pre =>
        injection h1 with h4 h5
        exact .inr (wStepsOf_mem.mpr ⟨pre, s', l, h5, h2, h3⟩)
theorem wMono {g : Gm} (hg : Ok g) (F : Tb) (nl : Nat → Bool) (t : Nat) : Mono g.nons.toNat (wSteps g.prods F nl t) := by
  intro x hx
  unfold wSteps at hx
  rw [List.mem_flatMap] at hx
  obtain ⟨p, hp, hx⟩ := hx
  obtain ⟨pre, s, l, h1, h2, rfl⟩ := wStepsOf_mem.mp hx
  obtain ⟨h3, h4, _⟩ := ok_nums hg hp
  refine ⟨h4 s (by rw [h1]; simp) h2, ?_⟩
  intro c d hcd h
  have h : (of F nl l t || (allNull nl l && c p.left.toNat)) = true := h
  show (of F nl l t || (allNull nl l && d p.left.toNat)) = true
  rcases Bool.or_eq_true_iff.mp h with h | h
  · rw [h]; rfl
  · rw [Bool.and_eq_true] at h
    rw [h.1, hcd _ h3 h.2]; simp
def Follow (g : Gm) (F : Tb) (nl : Nat → Bool) (W : Tb) : Prop := ∀ t, Least g.nons.toNat (wSteps g.prods F nl t) (wBase g.start.toNat t) (fun n => W n t)
theorem follow_shut {g : Gm} {F : Tb} {nl : Nat → Bool} {W : Tb} (h : Follow g F nl W) {p : Pr} (hp : p ∈ g.prods) {pre l : List Sy} {s : Sy} (hr : p.right = pre ++ s :: l) (hs : s.non = true) (t : Nat) :
    (of F nl l t = true → W s.n.toNat t = true) ∧ (allNull nl l = true → W p.left.toNat t = true → W s.n.toNat t = true) := by
  have := (h t).1 (s.n.toNat, fun c => of F nl l t || (allNull nl l && c p.left.toNat)) (by unfold wSteps; exact List.mem_flatMap.mpr ⟨p, hp, wStepsOf_mem.mpr ⟨pre, s, l, hr, hs, rfl⟩⟩)
  constructor
  · intro h1; exact this (by show (of F nl l t || _) = true; rw [h1]; rfl)
  · intro h1 h2; exact this (by show (_ || (allNull nl l && W p.left.toNat t)) = true; rw [h1, h2]; simp)
theorem follow_end {g : Gm} (hg : Ok g) {F : Tb} {nl : Nat → Bool} {W : Tb} (h : Follow g F nl W) : W g.start.toNat 16 = true := by
  have h1 := hg.2.2.2.2.1
  have h2 := hg.2.2.2.2.2.1
  exact (h 16).2.1 g.start.toNat (by omega) (decide_eq_true ⟨rfl, rfl⟩)
theorem follow_same {g : Gm} {F : Tb} {nl : Nat → Bool} {V W : Tb} (hV : Follow g F nl V) (hW : Follow g F nl W) {n : Nat} (hn : n < g.nons.toNat) (t : Nat) : V n t = W n t := least_same (hV t) (hW t) n hn
/-- Nothing but terminals, and the end, follows. -/
theorem of_term {g : Gm} (hg : Ok g) {nl : Nat → Bool} {F : Tb} (hF : First g nl F) {t : Nat} : ∀ {l : List Sy}, (∀ s ∈ l, okSy g s) → of F nl l t = true → (t : Int) < g.terms
  | [], _, h => absurd h (by simp [of])
  | s :: l, hl, h => by
    unfold of at h
    have hs := hl s (List.mem_cons_self ..)
    cases e : s.non with
    | true =>
      rw [if_pos e] at h
      rcases Bool.or_eq_true_iff.mp h with h1 | h1
      · have h2 := hs.2.1 e
        have h3 := hs.1
        exact first_term hg hF (by omega) h1
      · rw [Bool.and_eq_true] at h1
        exact of_term hg hF (fun x hx => hl x (List.mem_cons_of_mem _ hx)) h1.2
    | false =>
      rw [if_neg (by rw [e]; decide)] at h
      have h2 := hs.2.2 e
      have h3 := of_decide_eq_true h
      omega
theorem follow_term {g : Gm} (hg : Ok g) {F : Tb} {nl : Nat → Bool} {W : Tb} (hF : First g nl F) (h : Follow g F nl W) {n t : Nat} (hn : n < g.nons.toNat) (hw : W n t = true) : (t : Int) < g.terms ∨ t = 16 := by
  have := (h t).2.2 (fun _ => decide ((t : Int) < g.terms ∨ t = 16)) ?_ ?_ n hn hw
  · exact of_decide_eq_true this
  · intro x hx hv
    unfold wSteps at hx
    rw [List.mem_flatMap] at hx
    obtain ⟨p, hp, hx⟩ := hx
    obtain ⟨pre, s, l, h1, h2, rfl⟩ := wStepsOf_mem.mp hx
    have hv : (of F nl l t || (allNull nl l && decide ((t : Int) < g.terms ∨ t = 16))) = true := hv
    show decide ((t : Int) < g.terms ∨ t = 16) = true
    rcases Bool.or_eq_true_iff.mp hv with hv | hv
    · exact decide_eq_true (.inl (of_term hg hF (fun x hx => (hg.2.2.2.2.2.2.2 p hp).2.2.2 x (by rw [h1]; simp [hx])) hv))
    · rw [Bool.and_eq_true] at hv; exact hv.2
  · intro m _ hm
    have := of_decide_eq_true hm
    exact decide_eq_true (.inr this.2)

/-- What stands behind each nonterminal in a row of symbols is in its set. -/
def Behind (F : Tb) (nl : Nat → Bool) (W : Tb) (row : List Sy) : Prop :=
  ∀ pre s l, row = pre ++ s :: l → s.non = true → (∀ t, of F nl l t = true → W s.n.toNat t = true) ∧ (allNull nl l = true → W s.n.toNat 16 = true)
theorem behind_start {g : Gm} (hg : Ok g) {F : Tb} {nl : Nat → Bool} {W : Tb} (h : Follow g F nl W) : Behind F nl W [⟨true, g.start⟩] := by
  intro pre s l e hs
  cases pre with
  | nil =>
    injection e with e1 e2
    subst e1; subst e2
    exact ⟨fun t ht => absurd ht (by simp [of]), fun _ => follow_end hg h⟩
  | cons x pre => injection e with _ e2; exact absurd e2 (by simp)
/-- A production in the place of its nonterminal keeps that. -/
theorem behind_turn {g : Gm} (hg : Ok g) {F : Tb} {W : Tb} (hF : First g (nulls g) F) (h : Follow g F (nulls g) W) {p : Pr} (hp : p ∈ g.prods) {a : Sy} (ha : a.non = true) (hn : a.n = p.left) {u v : List Sy}
    (hb : Behind F (nulls g) W (u ++ a :: v)) : Behind F (nulls g) W (u ++ (p.right ++ v)) := by
  have hof : ∀ t, of F (nulls g) (p.right ++ v) t = true → of F (nulls g) (a :: v) t = true := by
    intro t ht
    rw [of_append] at ht
    unfold of
    rw [if_pos ha, hn]
    rcases Bool.or_eq_true_iff.mp ht with h1 | h1
    · rw [first_shut hF hp h1]; rfl
    · rw [Bool.and_eq_true] at h1
      rw [nulls_shut hg hp h1.1, h1.2]; simp
  have hall : allNull (nulls g) (p.right ++ v) = true → allNull (nulls g) (a :: v) = true := by
    intro h1
    rw [allNull_append, Bool.and_eq_true] at h1
    have h2 : allNull (nulls g) v = true := h1.2
    show (a.non && nulls g a.n.toNat && allNull (nulls g) v) = true
    rw [ha, hn, nulls_shut hg hp h1.1, h2]; rfl
  have hav := hb u a v rfl ha
  intro pre s l e hs
  rcases List.append_eq_append_iff.mp e with ⟨m, e1, e2⟩ | ⟨m, e1, e2⟩
  · -- within what came in, or behind it
    rcases List.append_eq_append_iff.mp e2 with ⟨k, e3, e4⟩ | ⟨k, e3, e4⟩
    · exact hb (u ++ a :: k) s l (by rw [e4]; simp) hs
    · cases k with
      | nil =>
        exact hb (u ++ [a]) s l (by
          have e4 : s :: l = v := e4
          rw [← e4]; simp) hs
      | cons y k =>
        injection e4 with e5 e6
        subst e5
        have e6 : l = k ++ v := e6
        have hsh := follow_shut h hp (pre := m) (s := s) (l := k) e3 hs
        constructor
        · intro t ht
          rw [e6, of_append] at ht
          rcases Bool.or_eq_true_iff.mp ht with h1 | h1
          · exact (hsh t).1 h1
          · rw [Bool.and_eq_true] at h1
            exact (hsh t).2 h1.1 (by rw [← hn]; exact hav.1 t h1.2)
        · intro h1
          rw [e6, allNull_append, Bool.and_eq_true] at h1
          exact (hsh 16).2 h1.1 (by rw [← hn]; exact hav.2 h1.2)
  · -- ahead of it
    cases m with
    | nil =>
      have e2 : s :: l = p.right ++ v := e2
      -- the first of what came in, or of what is behind
      cases er : p.right with
      | nil =>
        rw [er] at e2
        exact hb (u ++ [a]) s l (by have e2 : s :: l = v := e2; rw [← e2]; simp) hs
      | cons y k =>
        rw [er] at e2
        injection e2 with e5 e6
        subst e5
        have e6 : l = k ++ v := e6
        have hsh := follow_shut h hp (pre := []) (s := s) (l := k) er hs
        constructor
        · intro t ht
          rw [e6, of_append] at ht
          rcases Bool.or_eq_true_iff.mp ht with h1 | h1
          · exact (hsh t).1 h1
          · rw [Bool.and_eq_true] at h1
            exact (hsh t).2 h1.1 (by rw [← hn]; exact hav.1 t h1.2)
        · intro h1
          rw [e6, allNull_append, Bool.and_eq_true] at h1
          exact (hsh 16).2 h1.1 (by rw [← hn]; exact hav.2 h1.2)
    | cons y m =>
      injection e2 with e5 e6
      subst e5
      have e6 : l = m ++ (p.right ++ v) := e6
      have hb1 := hb pre s (m ++ a :: v) (by rw [e1]; simp) hs
      constructor
      · intro t ht
        apply hb1.1 t
        rw [e6, of_append] at ht
        rw [of_append]
        rcases Bool.or_eq_true_iff.mp ht with h1 | h1
        · rw [h1]; rfl
        · rw [Bool.and_eq_true] at h1
          rw [h1.1, hof t h1.2]; simp
      · intro h1
        apply hb1.2
        rw [e6, allNull_append, Bool.and_eq_true] at h1
        rw [allNull_append, h1.1, hall h1.2]; rfl
end Go.Proofs.Ytdfhhbncmdpoeaa.Fi
/- Plain facts on what is reached. No program is named here. -/
namespace Go.Proofs.Ytdfhhbncmdpoeaa.Rc
open Gr (Sy Pr Gm okSy okPr Ok)
open Rk (Fs Pick rk rounds)

/-- Does a nonterminal stand in a production? -/
def stands (p : Pr) (n : Nat) : Bool := p.right.any fun s => s.non && decide (s.n = (n : Int))
/-- The first production of one that was reached in the round ahead, in which it stands. -/
def pick (ps : List Pr) : Pick := fun l r n => ps.findIdx? fun p => stands p n && decide (rk l p.left.toNat + 1 = r)
def base (nons start : Nat) : Fs := (List.replicate nons (0, 0)).set start (1, 0)
theorem base_length (nons start : Nat) : (base nons start).length = nons := by unfold base; rw [List.length_set, List.length_replicate]
theorem base_getD {nons start : Nat} (n : Nat) (hs : start < nons) : (base nons start).getD n (0, 0) = if n = start then (1, 0) else (0, 0) := by
  unfold base
  rw [List.getD_eq_getElem?_getD, List.getElem?_set]
  by_cases h : start = n
  · subst h
    rw [if_pos rfl, if_pos rfl, if_pos (by rw [List.length_replicate]; exact hs)]
    rfl
  · rw [if_neg h, if_neg (fun e => h e.symm), List.getElem?_replicate]
    split <;> rfl
theorem base_rk {nons start : Nat} (n : Nat) (hs : start < nons) : rk (base nons start) n = if n = start then 1 else 0 := by
  unfold rk
  rw [base_getD n hs]
  split <;> rfl
theorem base_le {nons start : Nat} (hs : start < nons) : ∀ n, rk (base nons start) n ≤ 1 := by
  intro n
  rw [base_rk n hs]
  split <;> omega
theorem pick_none (ps : List Pr) (l : Fs) (r r' n : Nat) (h : ∀ m, rk l m < r) (hr : r ≤ r') (hp : pick ps l r n = none) : pick ps l r' n = none := by
  unfold pick at hp ⊢
  rw [List.findIdx?_eq_none_iff] at hp ⊢
  intro p hm
  have h1 := hp p hm
  by_cases e : r = r'
  · subst e; exact h1
  · have := h p.left.toNat
    rw [decide_eq_false (by omega), Bool.and_false]
theorem pick_some {ps : List Pr} {l : Fs} {r n i : Nat} (h : pick ps l r n = some i) : ∃ p, ps[i]? = some p ∧ stands p n = true ∧ rk l p.left.toNat + 1 = r ∧
    ∀ j q, j < i → ps[j]? = some q → stands q n = true → rk l q.left.toNat + 1 ≠ r := by
  unfold pick at h
  rw [List.findIdx?_eq_some_iff_getElem] at h
  obtain ⟨hi, h1, h2⟩ := h
  rw [Bool.and_eq_true, decide_eq_true_eq] at h1
  refine ⟨ps[i], List.getElem?_eq_getElem hi, h1.1, h1.2, ?_⟩
  intro j q hj hq hs
  have hjl : j < ps.length := by omega
  rw [List.getElem?_eq_getElem hjl] at hq
  injection hq with hq
  have := h2 j hj
  rw [hq, hs, Bool.true_and] at this
  simpa using this

/-- The facts, round by round, and in the end. -/
def rounds' (ps : List Pr) (nons start k : Nat) : Fs := rounds (pick ps) (base nons start) 1 k
def reach (ps : List Pr) (nons start : Nat) : Fs := rounds' ps nons start (nons - 1)

section
variable (ps : List Pr) {nons start : Nat} (hs : start < nons)
include hs
omit hs in
theorem rounds'_length (k : Nat) : (rounds' ps nons start k).length = nons := by unfold rounds'; rw [Rk.rounds_length, base_length]
omit hs in
theorem reach_length : (reach ps nons start).length = nons := rounds'_length ps _
theorem settled' {k : Nat} (hk : nons ≤ k + 1) : rounds' ps nons start k = reach ps nons start := by
  refine Rk.settled_on (pick ps) (base nons start) 1 (base_le hs) (pick_none ps) (c := 1) ?_ (j := nons - 1) (by rw [base_length]; omega) (by omega)
  rw [base_length]
  apply Rk.cnt_pos hs
  rw [base_rk _ hs, if_pos rfl]
  rfl
/-- A round that finds nothing ends it. -/
theorem reach_of {k : Nat} (h : rounds' ps nons start (k + 1) = rounds' ps nons start k) : rounds' ps nons start k = reach ps nons start := by
  rcases Nat.lt_or_ge (k + 1) nons with h1 | h1
  · have := Rk.stable_on (pick ps) (base nons start) 1 (base_le hs) (pick_none ps) h (nons - 1 - k)
    rw [show k + (nons - 1 - k) = nons - 1 by omega] at this
    exact this.symm
  · exact settled' ps hs h1
theorem rank_le (n : Nat) : rk (reach ps nons start) n ≤ nons := by
  have := Rk.rk_le (pick ps) (base nons start) 1 (base_le hs) (nons - 1) n
  unfold reach rounds'
  omega
theorem rank_zero (n : Nat) (h : rk (reach ps nons start) n = 0) : (reach ps nons start).getD n (0, 0) = (0, 0) := by
  refine Rk.zero (pick ps) (base nons start) 1 ?_ _ n h
  intro n h
  rw [base_rk n hs] at h
  rw [base_getD n hs]
  split at h
  · exact absurd h (by decide)
  · rename_i h1; rw [if_neg h1]
theorem at_start : (reach ps nons start).getD start (0, 0) = (1, 0) := by
  have h0 : rk (rounds (pick ps) (base nons start) 1 0) start ≠ 0 := by
    show rk (base nons start) start ≠ 0
    rw [base_rk _ hs, if_pos rfl]; decide
  have := Rk.keep (pick ps) (base nons start) 1 h0 (nons - 1)
  rw [Nat.zero_add] at this
  unfold reach rounds'
  rw [this]
  show (base nons start).getD start (0, 0) = _
  rw [base_getD _ hs, if_pos rfl]
theorem rk_start : rk (reach ps nons start) start = 1 := by unfold rk; rw [at_start ps hs]
/-- The facts show: who isn't Start was reached from one that was a round ahead. -/
theorem shown {n : Nat} (hn : n ≠ start) (h : rk (reach ps nons start) n ≠ 0) :
    ∃ p, ps[((reach ps nons start).getD n (0, 0)).2]? = some p ∧ stands p n = true ∧ rk (reach ps nons start) p.left.toNat ≠ 0 ∧ rk (reach ps nons start) p.left.toNat + 1 = rk (reach ps nons start) n := by
  have h2 : 2 ≤ rk (reach ps nons start) n := by
    rcases Nat.lt_or_ge (rk (reach ps nons start) n) 2 with h2 | h2
    · exfalso
      have e := Rk.there (pick ps) (base nons start) 1 (base_le hs) (k := nons - 1) (j := 0) (n := n) h (by show rk (reach ps nons start) n ≤ 1 + 0; omega)
      have e3 : rk (base nons start) n = rk (reach ps nons start) n := by unfold rk reach rounds'; rw [← e]; rfl
      rw [base_rk n hs, if_neg hn] at e3
      exact h e3.symm
    · exact h2
  obtain ⟨k, er⟩ : ∃ k, rk (reach ps nons start) n = 1 + k + 1 := ⟨rk (reach ps nons start) n - 2, by omega⟩
  have e1 := Rk.early (pick ps) (base nons start) 1 (base_le hs) (nons - 1) n k er
  have h0 := e1.1 k (Nat.le_refl _)
  have e2 := e1.2 (k + 1) (by omega)
  have h1 : rk (rounds (pick ps) (base nons start) 1 (k + 1)) n ≠ 0 := by unfold rk; rw [e2]; exact h
  obtain ⟨i, hp, e3⟩ := Rk.new_rk (pick ps) (base nons start) 1 h0 h1
  obtain ⟨p, hi, hst, hr, _⟩ := pick_some hp
  have e4 : (reach ps nons start).getD n (0, 0) = (1 + k + 1, i) := by unfold reach rounds'; rw [← e2]; exact e3
  rw [e4]
  have hle : k ≤ nons - 1 := by have := rank_le ps hs n; omega
  have hne : rk (rounds (pick ps) (base nons start) 1 k) p.left.toNat ≠ 0 := by omega
  have := Rk.keep_rk (pick ps) (base nons start) 1 hle hne
  have e5 : rk (reach ps nons start) p.left.toNat = rk (rounds (pick ps) (base nons start) 1 k) p.left.toNat := this
  refine ⟨p, hi, hst, by rw [e5]; exact hne, ?_⟩
  rw [e5, er]
  omega
/-- Who stands in a production of who is reached is reached, a round behind at the latest. -/
theorem on {p : Pr} (hp : p ∈ ps) {n : Nat} (hn : n < nons) (hst : stands p n = true) (h : rk (reach ps nons start) p.left.toNat ≠ 0) :
    rk (reach ps nons start) n ≠ 0 ∧ rk (reach ps nons start) n ≤ rk (reach ps nons start) p.left.toNat + 1 := by
  obtain ⟨k, er⟩ : ∃ k, rk (reach ps nons start) p.left.toNat = 1 + k := ⟨rk (reach ps nons start) p.left.toNat - 1, by omega⟩
  have e := Rk.there (pick ps) (base nons start) 1 (base_le hs) (k := nons - 1) (j := k) (n := p.left.toNat) h (by show rk (reach ps nons start) _ ≤ 1 + k; omega)
  have e2 : rk (rounds (pick ps) (base nons start) 1 k) p.left.toNat = 1 + k := by rw [← er]; unfold rk; rw [e]; rfl
  have key : rk (rounds (pick ps) (base nons start) 1 (k + 1)) n ≠ 0 := by
    cases ep : pick ps (rounds (pick ps) (base nons start) 1 k) (1 + k + 1) n with
    | none =>
      unfold pick at ep
      rw [List.findIdx?_eq_none_iff] at ep
      have := ep p hp
      have e2 : rk (rounds (fun l r n => ps.findIdx? fun p => stands p n && decide (rk l p.left.toNat + 1 = r)) (base nons start) 1 k) p.left.toNat = 1 + k := e2
      rw [hst, e2] at this
      exact absurd this (by simp)
    | some i => exact Rk.got (pick ps) (base nons start) 1 (by rw [base_length]; exact hn) ep
  have hle := Rk.rk_le (pick ps) (base nons start) 1 (base_le hs) (k + 1) n
  have e3 : rk (reach ps nons start) n = rk (rounds (pick ps) (base nons start) 1 (k + 1)) n := by
    rcases Nat.lt_or_ge nons (k + 1 + 1) with h1 | h1
    · rw [← settled' ps hs (k := k + 1) (by omega)]; rfl
    · exact Rk.keep_rk (pick ps) (base nons start) 1 (by omega) key
  rw [e3]
  exact ⟨key, by omega⟩
/-- What shows that one is reached is right, and the rank is no greater. -/
theorem least {R : Nat → Int} (h1 : R start = 1) (h : ∀ n, n < nons → n ≠ start → 0 < R n → ∃ p ∈ ps, stands p n = true ∧ p.left.toNat < nons ∧ 0 < R p.left.toNat ∧ R p.left.toNat < R n) :
    ∀ (m n : Nat), n < nons → 0 < R n → (R n).toNat ≤ m → rk (reach ps nons start) n ≠ 0 ∧ (rk (reach ps nons start) n : Int) ≤ R n
  | 0, n, _, h0, hm => by omega
  | m + 1, n, hn, h0, hm => by
    by_cases e : n = start
    · subst e
      rw [rk_start ps hs]
      omega
    · obtain ⟨p, hp, hst, hl, h3, h4⟩ := h n hn e h0
      have ih := least h1 h m p.left.toNat hl h3 (by omega)
      have := on ps hs hp hn hst ih.1
      omega
end
end Go.Proofs.Ytdfhhbncmdpoeaa.Rc
/- Plain facts on ways at the left. No program is named here. -/
namespace Go.Proofs.Ytdfhhbncmdpoeaa.Lf
open Gr (Sy Pr Gm okSy okPr Ok)
open Rk (Fs Pick rk rounds)

/-- A step: a production, a place. -/
abbrev Stp := Nat × Nat
def isStep (ps : List Pr) (nl : Nat → Bool) (x : Stp) : Bool := match ps[x.1]? with
  | none => false
  | some p => match p.right[x.2]? with
    | none => false
    | some s => s.non && Fi.allNull nl (p.right.take x.2)
def frm (ps : List Pr) (x : Stp) : Nat := match ps[x.1]? with
  | none => 0
  | some p => p.left.toNat
def to (ps : List Pr) (x : Stp) : Nat := match ps[x.1]? with
  | none => 0
  | some p => match p.right[x.2]? with
    | none => 0
    | some s => s.n.toNat
/-- All steps, by productions, then by places. -/
def stepsOf (ps : List Pr) (nl : Nat → Bool) (i : Nat) : List Stp := (List.range (match ps[i]? with | none => 0 | some p => p.right.length)).filterMap fun k => if isStep ps nl (i, k) then some (i, k) else none
def all (ps : List Pr) (nl : Nat → Bool) : List Stp := (List.range ps.length).flatMap (stepsOf ps nl)
theorem mem_all {ps : List Pr} {nl : Nat → Bool} {x : Stp} : x ∈ all ps nl ↔ isStep ps nl x = true := by
  unfold all
  rw [List.mem_flatMap]
  constructor
  · rintro ⟨i, _, h⟩
    unfold stepsOf at h
    rw [List.mem_filterMap] at h
    obtain ⟨k, _, h⟩ := h
    split at h
    · rename_i h1
      injection h with h
      rw [← h]; exact h1
    · exact absurd h (by simp)
  · intro h
    obtain ⟨i, k⟩ := x
    have h0 := h
    unfold isStep at h0
    have h0 : (match ps[i]? with | none => false | some p => match p.right[k]? with | none => false | some s => s.non && Fi.allNull nl (p.right.take k)) = true := h0
    cases e : ps[i]? with
    | none => rw [e] at h0; exact absurd h0 (by simp)
    | some p =>
      rw [e] at h0
      have h0 : (match p.right[k]? with | none => false | some s => s.non && Fi.allNull nl (p.right.take k)) = true := h0
      cases e2 : p.right[k]? with
      | none => rw [e2] at h0; exact absurd h0 (by simp)
      | some s =>
        have hi : i < ps.length := by
          rcases Nat.lt_or_ge i ps.length with h1 | h1
          · exact h1
          · rw [List.getElem?_eq_none h1] at e; exact absurd e (by simp)
        have hk : k < p.right.length := by
          rcases Nat.lt_or_ge k p.right.length with h1 | h1
          · exact h1
          · rw [List.getElem?_eq_none h1] at e2; exact absurd e2 (by simp)
        refine ⟨i, List.mem_range.mpr hi, ?_⟩
        unfold stepsOf
        rw [List.mem_filterMap]
        refine ⟨k, ?_, by rw [if_pos h]⟩
        rw [e]
        exact List.mem_range.mpr hk
theorem step_some {ps : List Pr} {nl : Nat → Bool} {x : Stp} (h : isStep ps nl x = true) : ∃ p s, ps[x.1]? = some p ∧ p.right[x.2]? = some s ∧ s.non = true ∧ Fi.allNull nl (p.right.take x.2) = true ∧ frm ps x = p.left.toNat ∧ to ps x = s.n.toNat := by
  unfold isStep at h
  cases e : ps[x.1]? with
  | none => rw [e] at h; exact absurd h (by simp)
  | some p =>
    rw [e] at h
    have h : (match p.right[x.2]? with | none => false | some s => s.non && Fi.allNull nl (p.right.take x.2)) = true := h
    cases e2 : p.right[x.2]? with
    | none => rw [e2] at h; exact absurd h (by simp)
    | some s =>
      rw [e2] at h
      have h : (s.non && Fi.allNull nl (p.right.take x.2)) = true := h
      rw [Bool.and_eq_true] at h
      refine ⟨p, s, rfl, e2, h.1, h.2, ?_, ?_⟩
      · unfold frm; rw [e]
      · unfold to; rw [e]
        show (match p.right[x.2]? with | none => 0 | some s => s.n.toNat) = _
        rw [e2]
theorem step_nums {g : Gm} (hg : Ok g) {nl : Nat → Bool} {x : Stp} (h : isStep g.prods nl x = true) : frm g.prods x < g.nons.toNat ∧ to g.prods x < g.nons.toNat := by
  obtain ⟨p, s, h1, h2, h3, _, h5, h6⟩ := step_some h
  have hp := List.mem_of_getElem? h1
  obtain ⟨h7, h8, _⟩ := Fi.ok_nums hg hp
  rw [h5, h6]
  exact ⟨h7, h8 s (List.mem_of_getElem? h2) h3⟩

/-- A way: steps, each from where the one ahead leads. -/
def Way (ps : List Pr) (nl : Nat → Bool) : Nat → List Stp → Nat → Prop
  | a, [], b => a = b
  | a, x :: l, b => isStep ps nl x = true ∧ frm ps x = a ∧ Way ps nl (to ps x) l b
def isWay (ps : List Pr) (nl : Nat → Bool) : Nat → List Stp → Nat → Bool
  | a, [], b => decide (a = b)
  | a, x :: l, b => isStep ps nl x && decide (frm ps x = a) && isWay ps nl (to ps x) l b
theorem isWay_iff {ps : List Pr} {nl : Nat → Bool} : ∀ {l : List Stp} {a b : Nat}, isWay ps nl a l b = true ↔ Way ps nl a l b
  | [], a, b => by unfold isWay Way; exact decide_eq_true_iff
  | x :: l, a, b => by
    unfold isWay Way
    rw [Bool.and_eq_true, Bool.and_eq_true, decide_eq_true_eq, isWay_iff (l := l), and_assoc]
/-- Does a way of one step at least lead from it to itself? -/
def LeftRec (ps : List Pr) (nl : Nat → Bool) (n : Nat) : Prop := ∃ l, l ≠ [] ∧ Way ps nl n l n

/-- How long the shortest way is to one, of one step at least: found round by round, with the first step. -/
def pick (ps : List Pr) (nl : Nat → Bool) (b : Nat) : Pick := fun l r n => (all ps nl).findIdx? fun x => decide (frm ps x = n) && (if r = 1 then decide (to ps x = b) else decide (rk l (to ps x) + 1 = r))
theorem pick_some {ps : List Pr} {nl : Nat → Bool} {b : Nat} {l : Fs} {r n i : Nat} (h : pick ps nl b l r n = some i) : ∃ x, (all ps nl)[i]? = some x ∧ isStep ps nl x = true ∧ frm ps x = n ∧ (r = 1 → to ps x = b) ∧ (r ≠ 1 → rk l (to ps x) + 1 = r) := by
  unfold pick at h
  rw [List.findIdx?_eq_some_iff_getElem] at h
  obtain ⟨hi, h1, _⟩ := h
  rw [Bool.and_eq_true, decide_eq_true_eq] at h1
  refine ⟨(all ps nl)[i], List.getElem?_eq_getElem hi, mem_all.mp (List.getElem_mem hi), h1.1, ?_, ?_⟩
  · intro e; have h2 := h1.2; rw [if_pos e] at h2; exact of_decide_eq_true h2
  · intro e; have h2 := h1.2; rw [if_neg e] at h2; exact of_decide_eq_true h2
theorem pick_none (ps : List Pr) (nl : Nat → Bool) (b : Nat) (l : Fs) (r r' n : Nat) (h : ∀ m, rk l m < r) (hr : r ≤ r') (hp : pick ps nl b l r n = none) : pick ps nl b l r' n = none := by
  unfold pick at hp ⊢
  rw [List.findIdx?_eq_none_iff] at hp ⊢
  intro x hx
  by_cases e : r = r'
  · subst e; exact hp x hx
  · have := h (to ps x)
    rw [if_neg (show ¬ r' = 1 by omega), decide_eq_false (show ¬ rk l (to ps x) + 1 = r' by omega), Bool.and_false]
def rounds' (ps : List Pr) (nl : Nat → Bool) (nons b k : Nat) : Fs := rounds (pick ps nl b) (Rk.zeros nons) 0 k
def dist (ps : List Pr) (nl : Nat → Bool) (nons b : Nat) : Fs := rounds' ps nl nons b nons

section
variable (ps : List Pr) (nl : Nat → Bool) (nons b : Nat)
theorem dist_length : (dist ps nl nons b).length = nons := by unfold dist rounds'; rw [Rk.rounds_length, Rk.zeros_length]
theorem settled' {k : Nat} (hk : nons ≤ k) : rounds' ps nl nons b k = dist ps nl nons b :=
  Rk.settled_on (pick ps nl b) (Rk.zeros nons) 0 (Rk.zeros_le nons) (pick_none ps nl b) (Nat.zero_le _) (j := nons) (by rw [Rk.zeros_length]; omega) hk
theorem dist_of {k : Nat} (h : rounds' ps nl nons b (k + 1) = rounds' ps nl nons b k) : rounds' ps nl nons b k = dist ps nl nons b := by
  rcases Nat.lt_or_ge k nons with h1 | h1
  · have := Rk.stable_on (pick ps nl b) (Rk.zeros nons) 0 (Rk.zeros_le nons) (pick_none ps nl b) h (nons - k)
    rw [show k + (nons - k) = nons by omega] at this
    exact this.symm
  · exact settled' ps nl nons b h1
theorem dist_le (n : Nat) : rk (dist ps nl nons b) n ≤ nons := by
  have := Rk.rk_le (pick ps nl b) (Rk.zeros nons) 0 (Rk.zeros_le nons) nons n
  unfold dist rounds'; omega
/-- Who has a first step has a way of so many steps. -/
theorem shown {n : Nat} (h : rk (dist ps nl nons b) n ≠ 0) : ∃ x, (all ps nl)[((dist ps nl nons b).getD n (0, 0)).2]? = some x ∧ isStep ps nl x = true ∧ frm ps x = n ∧
    ((rk (dist ps nl nons b) n = 1 ∧ to ps x = b) ∨ (rk (dist ps nl nons b) (to ps x) ≠ 0 ∧ rk (dist ps nl nons b) (to ps x) + 1 = rk (dist ps nl nons b) n)) := by
  obtain ⟨k, er⟩ : ∃ k, rk (dist ps nl nons b) n = 0 + k + 1 := ⟨rk (dist ps nl nons b) n - 1, by omega⟩
  have e1 := Rk.early (pick ps nl b) (Rk.zeros nons) 0 (Rk.zeros_le nons) nons n k er
  have h0 := e1.1 k (Nat.le_refl _)
  have e2 := e1.2 (k + 1) (by omega)
  have h1 : rk (rounds (pick ps nl b) (Rk.zeros nons) 0 (k + 1)) n ≠ 0 := by unfold rk; rw [e2]; exact h
  obtain ⟨i, hp, e3⟩ := Rk.new_rk (pick ps nl b) (Rk.zeros nons) 0 h0 h1
  obtain ⟨x, hi, hst, hf, hr1, hr2⟩ := pick_some hp
  have e4 : (dist ps nl nons b).getD n (0, 0) = (0 + k + 1, i) := by unfold dist rounds'; rw [← e2]; exact e3
  rw [e4]
  refine ⟨x, hi, hst, hf, ?_⟩
  rw [er]
  by_cases hk : k = 0
  · subst hk
    exact .inl ⟨rfl, hr1 rfl⟩
  · right
    have h5 := hr2 (by omega)
    have hle : k ≤ nons := by have := dist_le ps nl nons b n; omega
    have hne : rk (rounds (pick ps nl b) (Rk.zeros nons) 0 k) (to ps x) ≠ 0 := by omega
    have := Rk.keep_rk (pick ps nl b) (Rk.zeros nons) 0 hle hne
    have e5 : rk (dist ps nl nons b) (to ps x) = rk (rounds (pick ps nl b) (Rk.zeros nons) 0 k) (to ps x) := this
    rw [e5]
    exact ⟨hne, h5⟩
theorem one_at {x : Stp} (hx : isStep ps nl x = true) (hn : frm ps x < nons) {r : Nat} (h : r = 0 ∧ to ps x = b ∨ rk (dist ps nl nons b) (to ps x) ≠ 0 ∧ rk (dist ps nl nons b) (to ps x) = r) :
    rk (dist ps nl nons b) (frm ps x) ≠ 0 ∧ rk (dist ps nl nons b) (frm ps x) ≤ r + 1 := by
  have key : rk (rounds (pick ps nl b) (Rk.zeros nons) 0 (r + 1)) (frm ps x) ≠ 0 := by
    cases ep : pick ps nl b (rounds (pick ps nl b) (Rk.zeros nons) 0 r) (0 + r + 1) (frm ps x) with
    | none =>
      exfalso
      have hh : ∀ y ∈ all ps nl, (decide (frm ps y = frm ps x) && (if 0 + r + 1 = 1 then decide (to ps y = b) else decide (rk (rounds (pick ps nl b) (Rk.zeros nons) 0 r) (to ps y) + 1 = 0 + r + 1))) = false := by
        have := ep
        conv at this => lhs; unfold pick
        rw [List.findIdx?_eq_none_iff] at this
        exact this
      have := hh x (mem_all.mpr hx)
      rcases h with ⟨h1, h2⟩ | ⟨h1, h2⟩
      · subst h1
        rw [decide_eq_true rfl, if_pos rfl, decide_eq_true h2] at this
        exact absurd this (by decide)
      · have e := Rk.there (pick ps nl b) (Rk.zeros nons) 0 (Rk.zeros_le nons) (k := nons) (j := r) (n := to ps x) h1 (by show rk (dist ps nl nons b) _ ≤ 0 + r; omega)
        have e2 : rk (rounds (pick ps nl b) (Rk.zeros nons) 0 r) (to ps x) = rk (dist ps nl nons b) (to ps x) := by unfold rk; rw [e]; rfl
        rw [decide_eq_true rfl, if_neg (by omega), e2, h2, decide_eq_true (by omega)] at this
        exact absurd this (by decide)
    | some i => exact Rk.got (pick ps nl b) (Rk.zeros nons) 0 (by rw [Rk.zeros_length]; exact hn) ep
  have hle := Rk.rk_le (pick ps nl b) (Rk.zeros nons) 0 (Rk.zeros_le nons) (r + 1) (frm ps x)
  have e : rk (dist ps nl nons b) (frm ps x) = rk (rounds (pick ps nl b) (Rk.zeros nons) 0 (r + 1)) (frm ps x) := by
    rcases Nat.lt_or_ge nons (r + 1) with h1 | h1
    · rw [← settled' ps nl nons b (k := r + 1) (by omega)]; rfl
    · exact Rk.keep_rk (pick ps nl b) (Rk.zeros nons) 0 h1 key
  rw [e]
  exact ⟨key, by omega⟩
/-- The way itself. -/
def way : Nat → Nat → List Stp
  | 0, _ => []
  | r + 1, n => match (all ps nl)[((dist ps nl nons b).getD n (0, 0)).2]? with
    | none => []
    | some x => x :: way r (to ps x)
theorem way_is : ∀ (r n : Nat), rk (dist ps nl nons b) n = r + 1 → Way ps nl n (way ps nl nons b (r + 1) n) b ∧ (way ps nl nons b (r + 1) n).length = r + 1
  | r, n, h => by
    obtain ⟨x, hi, hst, hf, hr⟩ := shown ps nl nons b (n := n) (by omega)
    unfold way
    rw [hi]
    rcases hr with ⟨h1, h2⟩ | ⟨h1, h2⟩
    · obtain rfl : r = 0 := by omega
      exact ⟨⟨hst, hf, h2⟩, rfl⟩
    · obtain ⟨r', rfl⟩ : ∃ r', r = r' + 1 := ⟨r - 1, by omega⟩
      have ih := way_is r' (to ps x) (by omega)
      exact ⟨⟨hst, hf, ih.1⟩, by show (way ps nl nons b (r' + 1) (to ps x)).length + 1 = _; rw [ih.2]⟩
/-- The shortest way from one to b, of one step at least (none, if there is none). -/
def best (n : Nat) : List Stp := way ps nl nons b (rk (dist ps nl nons b) n) n
theorem best_length (n : Nat) : (best ps nl nons b n).length = rk (dist ps nl nons b) n := by
  unfold best
  cases e : rk (dist ps nl nons b) n with
  | zero => rfl
  | succ r => exact (way_is ps nl nons b r n e).2
theorem best_way {n : Nat} (h : rk (dist ps nl nons b) n ≠ 0) : Way ps nl n (best ps nl nons b n) b := by
  unfold best
  obtain ⟨r, e⟩ : ∃ r, rk (dist ps nl nons b) n = r + 1 := ⟨rk (dist ps nl nons b) n - 1, by omega⟩
  rw [e]
  exact (way_is ps nl nons b r n e).1
end
theorem found {g : Gm} (hg : Ok g) {nl : Nat → Bool} {b : Nat} : ∀ {l : List Stp} {n : Nat}, l ≠ [] → Way g.prods nl n l b → rk (dist g.prods nl g.nons.toNat b) n ≠ 0 ∧ rk (dist g.prods nl g.nons.toNat b) n ≤ l.length
  | [], _, h, _ => absurd rfl h
  | x :: l, n, _, ⟨h1, h2, h3⟩ => by
    subst h2
    have hn := step_nums hg h1
    cases l with
    | nil =>
      have h3 : to g.prods x = b := h3
      exact one_at g.prods nl g.nons.toNat b h1 hn.1 (.inl ⟨rfl, h3⟩)
    | cons y l =>
      have ih := found hg (by simp) h3
      have := one_at g.prods nl g.nons.toNat b h1 hn.1 (.inr ⟨ih.1, rfl⟩)
      have e : (x :: y :: l).length = (y :: l).length + 1 := rfl
      omega
theorem left_iff {g : Gm} (hg : Ok g) {nl : Nat → Bool} {n : Nat} : LeftRec g.prods nl n ↔ rk (dist g.prods nl g.nons.toNat n) n ≠ 0 := by
  constructor
  · rintro ⟨l, h1, h2⟩; exact (found hg h1 h2).1
  · intro h
    refine ⟨_, ?_, best_way g.prods nl g.nons.toNat n h⟩
    intro e
    have := best_length g.prods nl g.nons.toNat n n
    rw [e] at this
    exact h this.symm
end Go.Proofs.Ytdfhhbncmdpoeaa.Lf
/- The table of first ways, as it is worked out round by round into a copy: of each nonterminal the way itself. Plain facts; no program is named here. -/
namespace Go.Proofs.Ytdfhhbncmdpoeaa.Lf
open Gr (Sy Pr Gm okSy okPr Ok)
open Rk (Fs Pick rk rounds)

/-- Of each nonterminal a way, or none. -/
abbrev Wt := List (List Stp)
section
variable (ps : List Pr) (nl : Nat → Bool) (b : Nat) (tbl : Wt) (r a : Nat)
/-- Does a way of r steps go on from a by this step? -/
def hit (x : Stp) : Bool := decide (frm ps x = a) && (if r = 1 then decide (to ps x = b) else decide ((tbl.getD (to ps x) []).length + 1 = r))
def mk (x : Stp) : List Stp := x :: (if r = 1 then [] else tbl.getD (to ps x) [])
def found' : Option Stp → List Stp
  | none => []
  | some x => mk ps tbl r x
/-- Behind the first i steps. -/
def seen (i : Nat) (l : List Stp) : List Stp := if l ≠ [] then l else found' ps tbl r (((all ps nl).take i).find? (hit ps b tbl r a))
theorem seen_zero (l : List Stp) : seen ps nl b tbl r a 0 l = l := by
  unfold seen
  rw [List.take_zero, List.find?_nil]
  show (if l ≠ [] then l else []) = l
  split
  · rfl
  · rename_i h; exact (Classical.not_not.mp h).symm
theorem seen_keep {i : Nat} {l : List Stp} (h : l ≠ []) : seen ps nl b tbl r a i l = l := by unfold seen; rw [if_pos h]
theorem seen_done {i : Nat} {l : List Stp} (h : seen ps nl b tbl r a i l ≠ []) {j : Nat} (hj : i ≤ j) : seen ps nl b tbl r a j l = seen ps nl b tbl r a i l := by
  by_cases e : l ≠ []
  · rw [seen_keep ps nl b tbl r a e, seen_keep ps nl b tbl r a e]
  · unfold seen at h ⊢
    rw [if_neg e] at h ⊢
    rw [if_neg e]
    cases hf : ((all ps nl).take i).find? (hit ps b tbl r a) with
    | none => rw [hf] at h; exact absurd rfl h
    | some x =>
      rw [← Nat.min_eq_left hj, ← List.take_take] at hf
      obtain ⟨pre, post, h1⟩ : ∃ pre post, (all ps nl).take j = pre ++ post ∧ pre = ((all ps nl).take j).take i := ⟨_, _, (List.take_append_drop i _).symm, rfl⟩
      rw [← h1.2] at hf
      rw [h1.1, List.find?_append, hf]
      rfl
theorem seen_succ {i : Nat} (hi : i < (all ps nl).length) {l : List Stp} (h : seen ps nl b tbl r a i l = []) :
    seen ps nl b tbl r a (i + 1) l = if hit ps b tbl r a (all ps nl)[i] then mk ps tbl r (all ps nl)[i] else [] := by
  have hl : l = [] := by
    by_cases e : l ≠ []
    · rw [seen_keep ps nl b tbl r a e] at h; exact h
    · exact Classical.not_not.mp e
  subst hl
  unfold seen at h ⊢
  rw [if_neg (by simp)] at h ⊢
  rw [List.take_succ_eq_append_getElem hi, List.find?_append]
  cases hf : ((all ps nl).take i).find? (hit ps b tbl r a) with
  | some x => rw [hf] at h; exact absurd h (by simp [found', mk])
  | none =>
    rw [Option.none_or, List.find?_singleton]
    split <;> rfl
/-- The copy: those below a are done, a has seen the first i steps. -/
def tblAt (i : Nat) : Wt := tbl.mapIdx fun m l => if m < a then seen ps nl b tbl r m (all ps nl).length l else if m = a then seen ps nl b tbl r a i l else l
theorem tblAt_length (i : Nat) : (tblAt ps nl b tbl r a i).length = tbl.length := List.length_mapIdx ..
theorem tblAt_get (i m : Nat) : (tblAt ps nl b tbl r a i)[m]? = (tbl[m]?).map fun l => if m < a then seen ps nl b tbl r m (all ps nl).length l else if m = a then seen ps nl b tbl r a i l else l := by
  unfold tblAt; rw [List.getElem?_mapIdx]
theorem tblAt_at {i : Nat} (h : a < tbl.length) : (tblAt ps nl b tbl r a i)[a]? = some (seen ps nl b tbl r a i tbl[a]) := by
  rw [tblAt_get, List.getElem?_eq_getElem h, Option.map_some, if_neg (Nat.lt_irrefl _), if_pos rfl]
theorem tblAt_here {i : Nat} (h : a < tbl.length) : (tblAt ps nl b tbl r a i).getD a [] = seen ps nl b tbl r a i (tbl.getD a []) := by
  rw [List.getD_eq_getElem?_getD, List.getD_eq_getElem?_getD, tblAt_at ps nl b tbl r a h, List.getElem?_eq_getElem h]
  rfl
theorem tblAt_zero : tblAt ps nl b tbl r 0 0 = tbl := by
  apply List.ext_getElem?
  intro m
  rw [tblAt_get]
  cases h : tbl[m]? with
  | none => rfl
  | some l =>
    rw [Option.map_some, if_neg (Nat.not_lt_zero m)]
    split
    · rw [seen_zero]
    · rfl
theorem tblAt_turn : tblAt ps nl b tbl r (a + 1) 0 = tblAt ps nl b tbl r a (all ps nl).length := by
  apply List.ext_getElem?
  intro m
  rw [tblAt_get, tblAt_get]
  congr 1
  funext l
  by_cases h : m < a
  · rw [if_pos (by omega), if_pos h]
  · rw [if_neg h]
    by_cases e : m = a
    · subst e
      rw [if_pos (by omega), if_pos rfl]
    · rw [if_neg (by omega), if_neg e]
      split
      · rw [seen_zero]
      · rfl
/-- What is found is put in; else nothing changes. -/
theorem tblAt_stop {i : Nat} (ha : a < tbl.length) (hi : i ≤ (all ps nl).length) (h : (tblAt ps nl b tbl r a i).getD a [] ≠ []) : tblAt ps nl b tbl r a i = tblAt ps nl b tbl r (a + 1) 0 := by
  rw [tblAt_turn]
  rw [tblAt_here ps nl b tbl r a ha] at h
  apply List.ext_getElem?
  intro m
  by_cases e : m = a
  · subst e
    rw [tblAt_at ps nl b tbl r m ha, tblAt_at ps nl b tbl r m ha]
    have e2 : tbl.getD m [] = tbl[m] := by rw [List.getD_eq_getElem?_getD, List.getElem?_eq_getElem ha]; rfl
    rw [e2] at h
    rw [seen_done ps nl b tbl r m h hi]
  · rw [tblAt_get, tblAt_get]
    congr 1
    funext l
    rw [if_neg e, if_neg e]
theorem tblAt_put {i : Nat} (ha : a < tbl.length) (hi : i < (all ps nl).length) (h : (tblAt ps nl b tbl r a i).getD a [] = []) (hh : hit ps b tbl r a (all ps nl)[i] = true) :
    tblAt ps nl b tbl r a (i + 1) = (tblAt ps nl b tbl r a i).set a (mk ps tbl r (all ps nl)[i]) := by
  rw [tblAt_here ps nl b tbl r a ha] at h
  apply List.ext_getElem?
  intro m
  rw [List.getElem?_set, tblAt_length]
  by_cases e : m = a
  · subst e
    rw [if_pos rfl, if_pos ha, tblAt_at ps nl b tbl r m ha]
    have e2 : tbl.getD m [] = tbl[m] := by rw [List.getD_eq_getElem?_getD, List.getElem?_eq_getElem ha]; rfl
    rw [e2] at h
    rw [seen_succ ps nl b tbl r m hi h, if_pos hh]
  · rw [if_neg (fun h => e h.symm), tblAt_get, tblAt_get]
    congr 1
    funext l
    rw [if_neg e, if_neg e]
theorem tblAt_skip {i : Nat} (ha : a < tbl.length) (hi : i < (all ps nl).length) (h : (tblAt ps nl b tbl r a i).getD a [] = []) (hh : hit ps b tbl r a (all ps nl)[i] = false) :
    tblAt ps nl b tbl r a (i + 1) = tblAt ps nl b tbl r a i := by
  rw [tblAt_here ps nl b tbl r a ha] at h
  apply List.ext_getElem?
  intro m
  by_cases e : m = a
  · subst e
    rw [tblAt_at ps nl b tbl r m ha, tblAt_at ps nl b tbl r m ha]
    have e2 : tbl.getD m [] = tbl[m] := by rw [List.getD_eq_getElem?_getD, List.getElem?_eq_getElem ha]; rfl
    rw [e2] at h
    rw [seen_succ ps nl b tbl r m hi h, hh, h]
    rfl
  · rw [tblAt_get, tblAt_get]
    congr 1
    funext l
    rw [if_neg e, if_neg e]
end
/-- Round by round. -/
def bw (ps : List Pr) (nl : Nat → Bool) (nons b : Nat) : Nat → Wt
  | 0 => List.replicate nons []
  | k + 1 => tblAt ps nl b (bw ps nl nons b k) (k + 1) nons 0
section
variable (ps : List Pr) (nl : Nat → Bool) (nons b : Nat)
theorem bw_zero : bw ps nl nons b 0 = List.replicate nons [] := rfl
theorem bw_succ (k : Nat) : bw ps nl nons b (k + 1) = tblAt ps nl b (bw ps nl nons b k) (k + 1) nons 0 := rfl
theorem bw_length : ∀ k, (bw ps nl nons b k).length = nons
  | 0 => List.length_replicate
  | k + 1 => by rw [bw_succ, tblAt_length]; exact bw_length k
theorem bw_next {k m : Nat} (hm : m < nons) : (bw ps nl nons b (k + 1)).getD m [] = seen ps nl b (bw ps nl nons b k) (k + 1) m (all ps nl).length ((bw ps nl nons b k).getD m []) := by
  have hl : m < (bw ps nl nons b k).length := by rw [bw_length]; exact hm
  rw [bw_succ, List.getD_eq_getElem?_getD, List.getD_eq_getElem?_getD, tblAt_get, List.getElem?_eq_getElem hl]
  rw [Option.map_some, if_pos hm]
  rfl
/-- The ways are as long as the ranks are great. -/
theorem bw_len : ∀ (k m : Nat), ((bw ps nl nons b k).getD m []).length = rk (rounds' ps nl nons b k) m
  | 0, m => by
    show ((List.replicate nons ([] : List Stp)).getD m []).length = rk (Rk.zeros nons) m
    rw [Rk.rk_zeros, List.getD_eq_getElem?_getD, List.getElem?_replicate]
    split <;> rfl
  | k + 1, m => by
    rcases Nat.lt_or_ge m nons with hm | hm
    · have ih := bw_len k
      have e : rounds' ps nl nons b (k + 1) = Rk.round (pick ps nl b) (rounds' ps nl nons b k) (k + 1) := by
        unfold rounds'; rw [Rk.rounds_succ, Nat.zero_add]
      have hl : m < (rounds' ps nl nons b k).length := by unfold rounds'; rw [Rk.rounds_length, Rk.zeros_length]; exact hm
      rw [bw_next ps nl nons b hm, e]
      show _ = ((Rk.round _ _ _).getD m (0, 0)).1
      rw [Rk.getD_round _ _ _ _ hl]
      by_cases h0 : (bw ps nl nons b k).getD m [] = []
      · have hz : ((rounds' ps nl nons b k).getD m (0, 0)).1 = 0 := by
          have := ih m
          rw [h0] at this
          exact this.symm
        have hp : (fun x => decide (frm ps x = m) && (if k + 1 = 1 then decide (to ps x = b) else decide (rk (rounds' ps nl nons b k) (to ps x) + 1 = k + 1))) = hit ps b (bw ps nl nons b k) (k + 1) m := by
          funext x
          unfold hit
          rw [ih]
        unfold seen
        rw [if_neg (by rw [h0]; simp), List.take_length]
        cases hf : (all ps nl).find? (hit ps b (bw ps nl nons b k) (k + 1) m) with
        | none =>
          have hq : pick ps nl b (rounds' ps nl nons b k) (k + 1) m = none := by
            unfold pick
            rw [hp, List.findIdx?_eq_none_iff]
            intro x hx
            simpa using List.find?_eq_none.1 hf x hx
          rw [Rk.next_none hq]
          show 0 = _
          exact hz.symm
        | some x =>
          obtain ⟨i, hq⟩ : ∃ i, pick ps nl b (rounds' ps nl nons b k) (k + 1) m = some i := by
            unfold pick
            rw [hp]
            cases hi : (all ps nl).findIdx? (hit ps b (bw ps nl nons b k) (k + 1) m) with
            | some i => exact ⟨i, rfl⟩
            | none =>
              have h1 := List.findIdx?_eq_none_iff.1 hi x (List.mem_of_find?_eq_some hf)
              rw [List.find?_some hf] at h1
              cases h1
          rw [Rk.next_some hz hq]
          show (mk ps (bw ps nl nons b k) (k + 1) x).length = k + 1
          have hx := List.find?_some hf
          unfold hit at hx
          rw [Bool.and_eq_true] at hx
          unfold mk
          rw [List.length_cons]
          by_cases e1 : k + 1 = 1
          · rw [if_pos e1]; simp; omega
          · rw [if_neg e1]
            have h2 := hx.2
            rw [if_neg e1] at h2
            exact of_decide_eq_true h2
      · rw [seen_keep _ _ _ _ _ _ h0, ih]
        have hne : ((rounds' ps nl nons b k).getD m (0, 0)).1 ≠ 0 := by
          intro e0
          apply h0
          apply List.eq_nil_of_length_eq_zero
          rw [ih]; exact e0
        rw [Rk.next_keep hne]
        rfl
    · rw [Rk.rk_out (by unfold rounds'; rw [Rk.rounds_length, Rk.zeros_length]; exact hm), List.getD_eq_getElem?_getD, List.getElem?_eq_none (by rw [bw_length]; exact hm)]
      rfl
/-- The way that is told. -/
def told (b : Nat) : List Stp := (bw ps nl nons b nons).getD b []
theorem told_len : (told ps nl nons b).length = rk (dist ps nl nons b) b := bw_len ps nl nons b nons b
theorem bw_le (k m : Nat) : ((bw ps nl nons b k).getD m []).length ≤ k := by
  rw [bw_len]
  have := Rk.rk_le (pick ps nl b) (Rk.zeros nons) 0 (Rk.zeros_le nons) k m
  unfold rounds'
  omega
end
theorem told_iff {g : Gm} (hg : Ok g) {nl : Nat → Bool} {n : Nat} : LeftRec g.prods nl n ↔ 0 < (told g.prods nl g.nons.toNat n).length := by
  rw [left_iff hg, told_len]; omega
end Go.Proofs.Ytdfhhbncmdpoeaa.Lf
