/- Plain facts on the bytes of numbers: seven bits a byte, the lowest first. No program is named here. -/
namespace Go.Proofs.Ytgmnokmchjeflaa.Vy

/-- The bytes of a number, at most f and one of them. -/
def put : Nat → Nat → List Nat
  | 0, n => [n]
  | f + 1, n => if n < 128 then [n] else (n % 128 + 128) :: put f (n / 128)

/-- What is told at the byte c below 128 at place k, X being the number of the bytes ahead. -/
def fin (X k c : Nat) : Nat × Nat × Nat :=
  if k = 9 ∧ 1 < c then (0, 0, 4) else if 0 < k ∧ c = 0 then (0, 0, 2) else (X + c * 128 ^ k, k + 1, 0)

/-- What is told of bytes, k of them being read and X their number. -/
def scan : Nat → Nat → List Nat → Nat × Nat × Nat
  | _, k, [] => if k = 10 then (0, 0, 4) else (0, 0, 3)
  | X, k, c :: r => if k = 10 then (0, 0, 4) else if c < 128 then fin X k c else scan (X + (c - 128) * 128 ^ k) (k + 1) r

def enc (n : Nat) : List Nat := put 9 n
def dec (l : List Nat) : Nat × Nat × Nat := scan 0 0 l

theorem put_pos : ∀ f n, 0 < (put f n).length
  | 0, _ => by simp [put]
  | f + 1, n => by unfold put; split <;> simp
theorem put_len : ∀ f n, (put f n).length ≤ f + 1
  | 0, _ => by simp [put]
  | f + 1, n => by
    unfold put; split
    · simp
    · have := put_len f (n / 128); simp; omega
theorem put_byte : ∀ f n, n < 128 ^ (f + 1) → ∀ c ∈ put f n, c < 256
  | 0, n, h, c, hc => by simp [put] at hc; omega
  | f + 1, n, h, c, hc => by
    unfold put at hc
    split at hc
    · simp at hc; omega
    · rcases List.mem_cons.1 hc with rfl | hc
      · omega
      · refine put_byte f (n / 128) ?_ c hc
        rw [Nat.div_lt_iff_lt_mul (by decide)]
        rwa [Nat.pow_succ] at h
theorem put_ne (f n : Nat) : put f n ≠ [] := fun h => by have := put_pos f n; rw [h] at this; simp at this

theorem pow_ge (k : Nat) (h : 10 ≤ k) : 18446744073709551616 ≤ 128 ^ k :=
  Nat.le_trans (by decide) (Nat.pow_le_pow_right (by decide) h)

theorem fin_ok (X k n : Nat) (h64 : n * 128 ^ k < 18446744073709551616) (h0 : 0 < k → 0 < n) : fin X k n = (X + n * 128 ^ k, k + 1, 0) := by
  unfold fin
  rw [if_neg, if_neg]
  · rintro ⟨h, rfl⟩; have := h0 h; omega
  · rintro ⟨rfl, h⟩; have e : (128 : Nat) ^ 9 = 9223372036854775808 := by decide
    rw [e] at h64; omega

theorem scan_put : ∀ (f X k n : Nat) (rest : List Nat), f + k ≤ 9 → n < 128 ^ (f + 1) → n * 128 ^ k < 18446744073709551616 → (0 < k → 0 < n) →
    scan X k (put f n ++ rest) = (X + n * 128 ^ k, k + (put f n).length, 0)
  | 0, X, k, n, rest, hk, hn, h64, h0 => by
    have hn' : n < 128 := by simpa using hn
    simp only [put, List.cons_append, List.nil_append, scan, List.length_cons, List.length_nil]
    rw [if_neg (by omega), if_pos hn', fin_ok X k n h64 h0]
  | f + 1, X, k, n, rest, hk, hn, h64, h0 => by
    by_cases h : n < 128
    · simp only [put, h, if_true, List.cons_append, List.nil_append, scan, List.length_cons, List.length_nil]
      rw [if_neg (by omega), fin_ok X k n h64 h0]
    · have e1 : put (f + 1) n = (n % 128 + 128) :: put f (n / 128) := by simp [put, h]
      have e2 : n * 128 ^ k = n % 128 * 128 ^ k + n / 128 * 128 ^ (k + 1) := by
        have := Nat.mod_add_div n 128
        calc n * 128 ^ k = (n % 128 + 128 * (n / 128)) * 128 ^ k := by rw [this]
          _ = n % 128 * 128 ^ k + n / 128 * 128 ^ (k + 1) := by rw [Nat.add_mul, Nat.pow_succ]; congr 1; rw [Nat.mul_comm 128 (n / 128), Nat.mul_assoc, Nat.mul_comm 128 (128 ^ k)]
      have hd : n / 128 < 128 ^ (f + 1) := by
        rw [Nat.div_lt_iff_lt_mul (by decide)]
        rwa [Nat.pow_succ] at hn
      have ih := scan_put f (X + n % 128 * 128 ^ k) (k + 1) (n / 128) rest (by omega) hd (by omega) (fun _ => by omega)
      rw [e1]
      simp only [List.cons_append, scan, List.length_cons]
      rw [if_neg (by omega), if_neg (by omega), Nat.add_sub_cancel, ih]
      simp only [Prod.mk.injEq, and_true]
      omega

theorem scan_cut : ∀ (f X k n : Nat), f + k ≤ 9 → scan X k ((put f n).dropLast) = (0, 0, 3)
  | 0, X, k, n, h => by
    simp only [put, List.dropLast_singleton, scan]; rw [if_neg (by omega)]
  | f + 1, X, k, n, h => by
    by_cases hn : n < 128
    · simp only [put, hn, if_true, List.dropLast_singleton, scan]; rw [if_neg (by omega)]
    · have e1 : put (f + 1) n = (n % 128 + 128) :: put f (n / 128) := by simp [put, hn]
      rw [e1, List.dropLast_cons_of_ne_nil (put_ne _ _)]
      simp only [scan]
      rw [if_neg (by omega), if_neg (by omega)]
      exact scan_cut f _ (k + 1) (n / 128) (by omega)

/-- Beside an error there is nothing. -/
theorem scan_err : ∀ (l : List Nat) (X k : Nat), (scan X k l).2.2 ≠ 0 → (scan X k l).1 = 0 ∧ (scan X k l).2.1 = 0
  | [], X, k => by unfold scan; split <;> simp
  | c :: r, X, k => by
    unfold scan
    split
    · simp
    · split
      · unfold fin; split
        · simp
        · split <;> simp
      · exact scan_err r _ _

theorem scan_ok : ∀ (l : List Nat) (X k : Nat), (∀ c ∈ l, c < 256) → k ≤ 9 → (scan X k l).2.2 = 0 →
    ∃ v m, scan X k l = (X + v * 128 ^ k, k + m, 0) ∧ (0 < k → 0 < v) ∧ v * 128 ^ k < 18446744073709551616 ∧ 0 < m ∧ m ≤ l.length ∧ put (9 - k) v = l.take m
  | [], X, k, _, _, h => by
    unfold scan at h; split at h <;> simp at h
  | c :: r, X, k, hb, hk, h => by
    unfold scan at h ⊢
    rw [if_neg (by omega)] at h ⊢
    by_cases hc : c < 128
    · rw [if_pos hc] at h ⊢
      unfold fin at h ⊢
      by_cases h1 : k = 9 ∧ 1 < c
      · rw [if_pos h1] at h; simp at h
      · rw [if_neg h1] at h ⊢
        by_cases h2 : 0 < k ∧ c = 0
        · rw [if_pos h2] at h; simp at h
        · rw [if_neg h2]
          refine ⟨c, 1, rfl, by omega, ?_, by omega, by simp, ?_⟩
          · by_cases h9 : k = 9
            · subst h9
              have : c ≤ 1 := by omega
              have e : (128 : Nat) ^ 9 = 9223372036854775808 := by decide
              rw [e]; omega
            · have h8 : 128 ^ k ≤ 128 ^ 8 := Nat.pow_le_pow_right (by decide) (by omega)
              have e : (128 : Nat) ^ 8 = 72057594037927936 := by decide
              rw [e] at h8
              calc c * 128 ^ k ≤ 127 * 72057594037927936 := Nat.mul_le_mul (by omega) h8
                _ < 18446744073709551616 := by decide
          · cases hf : 9 - k with
            | zero => simp [put]
            | succ f => simp [put, hc]
    · rw [if_neg hc] at h ⊢
      by_cases h9 : k = 9
      · subst h9
        exfalso
        cases r with
        | nil => simp [scan] at h
        | cons d s => simp [scan] at h
      · have hc256 : c < 256 := hb c (by simp)
        obtain ⟨v, m, e, hv, h64, hm, hml, hp⟩ := scan_ok r (X + (c - 128) * 128 ^ k) (k + 1) (fun d hd => hb d (by simp [hd])) (by omega) h
        have hv' := hv (by omega)
        have e2 : (c - 128 + 128 * v) * 128 ^ k = (c - 128) * 128 ^ k + v * 128 ^ (k + 1) := by
          rw [Nat.add_mul, Nat.pow_succ]; congr 1; rw [Nat.mul_comm 128 v, Nat.mul_assoc, Nat.mul_comm 128 (128 ^ k)]
        refine ⟨c - 128 + 128 * v, m + 1, ?_, by omega, ?_, by omega, by simp; omega, ?_⟩
        · rw [e, e2]; simp only [Prod.mk.injEq, and_true]; omega
        · rw [e2]
          by_cases hk8 : k ≤ 8
          · have h64' : v * 128 ^ (k + 1) + 128 ^ (k + 1) ≤ 18446744073709551616 := by
              obtain ⟨q, hq⟩ : ∃ q, 18446744073709551616 = q * 128 ^ (k + 1) := ⟨2 * 128 ^ (8 - k), by rw [Nat.mul_assoc, ← Nat.pow_add, show 8 - k + (k + 1) = 9 by omega]⟩
              rw [hq] at h64 ⊢
              have hlt : v < q := Nat.lt_of_mul_lt_mul_right h64
              calc v * 128 ^ (k + 1) + 128 ^ (k + 1) = (v + 1) * 128 ^ (k + 1) := by rw [Nat.add_mul, Nat.one_mul]
                _ ≤ q * 128 ^ (k + 1) := Nat.mul_le_mul_right _ hlt
            have : (c - 128) * 128 ^ k < 128 * 128 ^ k := Nat.mul_lt_mul_of_pos_right (by omega) (Nat.pow_pos (by decide))
            rw [Nat.pow_succ] at h64' ⊢
            omega
          · omega
        · have ef : 9 - k = (9 - (k + 1)) + 1 := by omega
          rw [ef]
          simp only [put, List.take_succ_cons]
          rw [if_neg (by omega), show (c - 128 + 128 * v) % 128 + 128 = c by omega, show (c - 128 + 128 * v) / 128 = v by omega, hp]

/-- All of what is told of the bytes of a number, whatever stands behind. -/
theorem dec_enc (n : Nat) (hn : n < 18446744073709551616) (rest : List Nat) : dec (enc n ++ rest) = (n, (enc n).length, 0) := by
  have e : n < 128 ^ (9 + 1) := Nat.lt_of_lt_of_le hn (by decide)
  have := scan_put 9 0 0 n rest (by omega) e (by simpa using hn) (by omega)
  simpa [dec, enc] using this
theorem dec_cut (n : Nat) : dec ((enc n).dropLast) = (0, 0, 3) := scan_cut 9 0 0 n (by omega)
theorem dec_err (l : List Nat) (h : (dec l).2.2 ≠ 0) : (dec l).1 = 0 ∧ (dec l).2.1 = 0 := scan_err l 0 0 h
theorem dec_ok (l : List Nat) (hb : ∀ c ∈ l, c < 256) (h : (dec l).2.2 = 0) :
    ∃ v m, dec l = (v, m, 0) ∧ v < 18446744073709551616 ∧ 0 < m ∧ m ≤ l.length ∧ enc v = l.take m := by
  obtain ⟨v, m, e, _, h64, hm, hml, hp⟩ := scan_ok l 0 0 hb (by omega) h
  exact ⟨v, m, by simpa [dec] using e, by simpa using h64, hm, hml, hp⟩
theorem enc_len (n : Nat) : 0 < (enc n).length ∧ (enc n).length ≤ 10 := ⟨put_pos 9 n, put_len 9 n⟩
theorem enc_byte (n : Nat) (hn : n < 18446744073709551616) : ∀ c ∈ enc n, c < 256 := put_byte 9 n (Nat.lt_of_lt_of_le hn (by decide))
theorem enc_inj (n m : Nat) (hn : n < 18446744073709551616) (hm : m < 18446744073709551616) : enc n = enc m ↔ n = m := by
  refine ⟨fun h => ?_, fun h => by rw [h]⟩
  have a := dec_enc n hn []
  have b := dec_enc m hm []
  rw [h, b] at a
  injection a with a _
  exact a.symm

/-- The number of rows of seven bits, the lowest first. -/
def dval : List Nat → Nat
  | [] => 0
  | c :: r => c % 128 + 128 * dval r
theorem dval_append (a b : List Nat) : dval (a ++ b) = dval a + dval b * 128 ^ a.length := by
  induction a with
  | nil => simp [dval]
  | cons c a ih =>
    simp only [List.cons_append, dval, ih, List.length_cons, Nat.pow_succ, Nat.mul_add]
    rw [show 128 * (dval b * 128 ^ a.length) = dval b * (128 ^ a.length * 128) by rw [Nat.mul_comm 128, Nat.mul_assoc]]
    omega
theorem dval_drop (l : List Nat) (i : Nat) : dval (l.drop i) ≤ dval l := by
  induction l generalizing i with
  | nil => simp
  | cons c r ih =>
    cases i with
    | zero => simp
    | succ i => have := ih i; simp only [List.drop_succ_cons, dval]; omega
theorem scan_run (a : List Nat) : ∀ (X j : Nat) (r : List Nat), (∀ c ∈ a, 128 ≤ c ∧ c < 256) → j + a.length ≤ 10 → scan X j (a ++ r) = scan (X + dval a * 128 ^ j) (j + a.length) r := by
  induction a with
  | nil => intro X j r _ _; simp [dval]
  | cons c a ih =>
    intro X j r h hj
    have hc := h c (by simp)
    simp only [List.length_cons] at hj ⊢
    simp only [List.cons_append, scan]
    rw [if_neg (by omega), if_neg (by omega), ih _ _ _ (fun d hd => h d (by simp [hd])) (by omega)]
    have e : (c - 128) * 128 ^ j + dval a * 128 ^ (j + 1) = dval (c :: a) * 128 ^ j := by
      simp only [dval]
      rw [show c % 128 = c - 128 by omega, Nat.add_mul, Nat.pow_succ, Nat.mul_comm 128 (dval a), Nat.mul_assoc, Nat.mul_comm 128 (128 ^ j)]
    rw [Nat.add_assoc X, e, show j + 1 + a.length = j + (a.length + 1) by omega]
section
variable {l : List Nat} {k : Nat}
theorem dec_at (hb : ∀ c ∈ l, c < 256) (hg : ∀ c ∈ l.take k, 128 ≤ c) (hk : k ≤ 10) (hl : k ≤ l.length) : dec l = scan (dval (l.take k)) k (l.drop k) := by
  have h := scan_run (l.take k) 0 0 (l.drop k) (fun c hc => ⟨hg c hc, hb c (List.mem_of_mem_take hc)⟩) (by simp; omega)
  rw [List.take_append_drop] at h
  simpa [dec, Nat.min_eq_left hl] using h
theorem dec_long (hb : ∀ c ∈ l, c < 256) (hg : ∀ c ∈ l.take k, 128 ≤ c) (hk : 10 ≤ k) (hl : k ≤ l.length) : dec l = (0, 0, 4) := by
  have hg' : ∀ c ∈ l.take 10, 128 ≤ c := fun c hc => hg c (List.take_subset_take_left l hk hc)
  rw [dec_at hb hg' (Nat.le_refl _) (by omega)]
  cases l.drop 10 <;> simp [scan]
theorem dec_short (hb : ∀ c ∈ l, c < 256) (hg : ∀ c ∈ l.take k, 128 ≤ c) (hk : k < 10) (hl : k = l.length) : dec l = (0, 0, 3) := by
  rw [dec_at hb hg (by omega) (by omega), List.drop_of_length_le (by omega)]
  simp only [scan]; rw [if_neg (by omega)]
theorem dec_fin (hb : ∀ c ∈ l, c < 256) (hg : ∀ c ∈ l.take k, 128 ≤ c) (hk : k < 10) (hl : k < l.length) (hc : l[k] < 128) : dec l = fin (dval (l.take k)) k l[k] := by
  rw [dec_at hb hg (by omega) (by omega), List.drop_eq_getElem_cons hl]
  simp only [scan]; rw [if_neg (by omega), if_pos hc]
theorem dval_last (hl : k < l.length) (hc : l[k] < 128) : dval (l.take (k + 1)) = dval (l.take k) + l[k] * 128 ^ k := by
  rw [List.take_succ_eq_append_getElem hl, dval_append]
  simp [dval, Nat.mod_eq_of_lt hc, Nat.min_eq_left (Nat.le_of_lt hl)]
theorem dval_small (hk : k < 10) (hl : k < l.length) (hc : l[k] < 128) (h9 : k = 9 → l[k] ≤ 1) : dval (l.take (k + 1)) < 18446744073709551616 := by
  have hlt : ∀ a : List Nat, dval a < 128 ^ a.length := by
    intro a
    induction a with
    | nil => simp [dval]
    | cons c a ih =>
      simp only [dval, List.length_cons, Nat.pow_succ]
      omega
  rw [dval_last hl hc]
  have h1 := hlt (l.take k)
  rw [List.length_take, Nat.min_eq_left (Nat.le_of_lt hl)] at h1
  by_cases e : k = 9
  · have := h9 e; subst e
    have e : (128 : Nat) ^ 9 = 9223372036854775808 := by decide
    rw [e] at h1 ⊢; omega
  · have h8 : 128 ^ k ≤ 128 ^ 8 := Nat.pow_le_pow_right (by decide) (by omega)
    have e : (128 : Nat) ^ 8 = 72057594037927936 := by decide
    rw [e] at h8
    have : l[k] * 128 ^ k ≤ 127 * 72057594037927936 := Nat.mul_le_mul (by omega) h8
    omega
theorem dval_step (i : Nat) (hi : i ≤ k) (hl : k < l.length) : dval ((l.take (k + 1)).drop i) = 128 * dval ((l.take (k + 1)).drop (i + 1)) + l[i] % 128 := by
  have h : i < (l.take (k + 1)).length := by simp; omega
  rw [List.drop_eq_getElem_cons h]
  simp only [dval, List.getElem_take]
  omega
end
end Go.Proofs.Ytgmnokmchjeflaa.Vy
