/- Plain facts on words, edits, and what becomes of words. No program is named here. -/
import Derived.Test.YtmegpmkjhbihaaaWMath
namespace Go.Proofs.Ytmegpmkjhbihaaa.Wd

/-- An edit: a place, whether the token there is dropped, and the token that is put in ahead of it. -/
structure Ed where
  at_ : Int
  drop : Bool
  tok : Int

/-- May a token, a word be; does it fit? -/
def okT (t : Int) : Bool := decide (0 ≤ t ∧ t ≤ 15)
def okW (w : List Int) : Bool := decide (w.length ≤ 24) && w.all okT
def fits (terms : Int) (w : List Int) : Bool := okW w && w.all fun t => decide (t < terms)
theorem okT_iff (t : Int) : okT t = true ↔ 0 ≤ t ∧ t ≤ 15 := by simp [okT]
theorem okW_iff (w : List Int) : okW w = true ↔ w.length ≤ 24 ∧ ∀ t ∈ w, 0 ≤ t ∧ t ≤ 15 := by simp [okW, okT]
theorem fits_iff (n : Int) (w : List Int) : fits n w = true ↔ okW w = true ∧ ∀ t ∈ w, t < n := by simp [fits]
theorem okW_long {w : List Int} (h : 24 < w.length) : okW w = false := by
  rw [Bool.eq_false_iff]; intro e; have := ((okW_iff w).1 e).1; omega
theorem okW_one {w : List Int} {k : Nat} (hk : k < w.length) (h : okT w[k] = false) : okW w = false := by
  rw [Bool.eq_false_iff]; intro e
  have := (okT_iff _).2 (((okW_iff w).1 e).2 _ (List.getElem_mem hk))
  rw [h] at this; cases this
theorem okW_of {w : List Int} (h : w.length ≤ 24) (hx : ∀ t ∈ w, okT t = true) : okW w = true := (okW_iff w).2 ⟨h, fun t ht => (okT_iff t).1 (hx t ht)⟩

/-- May an edit be, of a word of so many tokens, by itself; and behind another one? -/
def oneE (size : Int) (e : Ed) : Bool := decide (0 ≤ e.at_ ∧ e.at_ ≤ size ∧ 0 ≤ e.tok ∧ e.tok ≤ 15 ∧ (e.drop = true → e.at_ < size ∧ e.tok = 0))
def nextE (a b : Ed) : Bool := decide (a.at_ ≤ b.at_ ∧ (a.drop = true → a.at_ < b.at_))
/-- May edits be? -/
def may (size : Int) : List Ed → Bool
  | [] => true
  | e :: l => oneE size e && (match l with | [] => true | f :: _ => nextE e f) && may size l
theorem oneE_iff (size : Int) (e : Ed) : oneE size e = true ↔ 0 ≤ e.at_ ∧ e.at_ ≤ size ∧ 0 ≤ e.tok ∧ e.tok ≤ 15 ∧ (e.drop = true → e.at_ < size ∧ e.tok = 0) := by unfold oneE; rw [decide_eq_true_eq]
theorem nextE_iff (a b : Ed) : nextE a b = true ↔ a.at_ ≤ b.at_ ∧ (a.drop = true → a.at_ < b.at_) := by unfold nextE; rw [decide_eq_true_eq]
theorem may_cons {size : Int} {e : Ed} {l : List Ed} (h : may size (e :: l) = true) : oneE size e = true ∧ (∀ f r, l = f :: r → nextE e f = true) ∧ may size l = true := by
  unfold may at h
  rw [Bool.and_eq_true, Bool.and_eq_true] at h
  refine ⟨h.1.1, fun f r e => ?_, h.2⟩
  subst e
  exact h.1.2
theorem may_of {size : Int} {e : Ed} {l : List Ed} (h1 : oneE size e = true) (h2 : ∀ f r, l = f :: r → nextE e f = true) (h3 : may size l = true) : may size (e :: l) = true := by
  unfold may
  rw [Bool.and_eq_true, Bool.and_eq_true]
  refine ⟨⟨h1, ?_⟩, h3⟩
  cases l with
  | nil => rfl
  | cons f r => exact h2 f r rfl
/-- All that stand behind an edit. -/
theorem may_behind : ∀ (l : List Ed) {size : Int} {e : Ed}, may size (e :: l) = true → ∀ f ∈ l, e.at_ ≤ f.at_ ∧ (e.drop = true → e.at_ < f.at_)
  | [], _, _, _, _, hf => by cases hf
  | g :: l, size, e, h, f, hf => by
    obtain ⟨_, h2, h3⟩ := may_cons h
    have h4 := (nextE_iff e g).1 (h2 g l rfl)
    rcases List.mem_cons.1 hf with rfl | hf
    · exact h4
    · have h5 := may_behind l h3 f hf
      exact ⟨by omega, fun hd => by have := h4.2 hd; omega⟩
/-- Edits may be just if each may, and each behind the one ahead of it: place by place. -/
theorem may_iff : ∀ (l : List Ed) (size : Int), may size l = true ↔ (∀ i (h : i < l.length), oneE size l[i] = true) ∧ ∀ i (h : i + 1 < l.length), nextE l[i] l[i + 1] = true
  | [], _ => by simp [may]
  | e :: l, size => by
    have ih := may_iff l size
    constructor
    · intro h
      obtain ⟨h1, h2, h3⟩ := may_cons h
      obtain ⟨g1, g2⟩ := ih.1 h3
      refine ⟨fun i hi => ?_, fun i hi => ?_⟩
      · cases i with
        | zero => exact h1
        | succ i => exact g1 i (by simpa using hi)
      · cases i with
        | zero =>
          cases l with
          | nil => simp at hi
          | cons f r => exact h2 f r rfl
        | succ i => exact g2 i (by simpa using hi)
    · rintro ⟨h1, h2⟩
      refine may_of (h1 0 (by simp)) (fun f r e => ?_) (ih.2 ⟨fun i hi => h1 (i + 1) (by simpa using hi), fun i hi => h2 (i + 1) (by simpa using hi)⟩)
      subst e
      exact h2 0 (by simp)

/-- What becomes of the tokens from place i on, the edits gone through once. -/
def run : Int → List Int → List Ed → List Int
  | _, toks, [] => toks
  | i, toks, e :: l => toks.take (e.at_ - i).toNat ++ (if e.drop then run (e.at_ + 1) (toks.drop ((e.at_ - i).toNat + 1)) l else e.tok :: run e.at_ (toks.drop (e.at_ - i).toNat) l)
/-- What is put in at a place; is the token there dropped? -/
def puts (l : List Ed) (i : Int) : List Int := (l.filter fun e => decide (e.at_ = i) && !e.drop).map Ed.tok
def gone (l : List Ed) (i : Int) : Bool := l.any fun e => decide (e.at_ = i) && e.drop
/-- What becomes of the tokens from place i on, place by place. -/
def plc : Int → List Int → List Ed → List Int
  | i, [], l => puts l i
  | i, t :: toks, l => puts l i ++ ((if gone l i then [] else [t]) ++ plc (i + 1) toks l)

theorem puts_none {l : List Ed} {i : Int} (h : ∀ e ∈ l, e.at_ ≠ i) : puts l i = [] := by
  unfold puts
  rw [List.filter_eq_nil_iff.2 fun e he => by simp [h e he]]
  rfl
theorem gone_none {l : List Ed} {i : Int} (h : ∀ e ∈ l, e.at_ ≠ i) : gone l i = false := by
  unfold gone
  rw [List.any_eq_false]
  intro e he
  simp [h e he]
/-- Where no edit is, tokens stay. -/
theorem plc_skip : ∀ (d : Nat) (i : Int) (toks : List Int) (l : List Ed), (∀ e ∈ l, i + d ≤ e.at_) → d ≤ toks.length → plc i toks l = toks.take d ++ plc (i + d) (toks.drop d) l
  | 0, i, toks, l, _, _ => by simp
  | d + 1, i, [], l, _, hd => by simp at hd
  | d + 1, i, t :: toks, l, h, hd => by
    have h0 : ∀ e ∈ l, e.at_ ≠ i := fun e he => by have := h e he; omega
    have ih := plc_skip d (i + 1) toks l (fun e he => by have := h e he; omega) (by simpa using hd)
    rw [plc, puts_none h0, gone_none h0, ih]
    simp only [List.nil_append, Bool.false_eq_true, if_false, List.take_succ_cons, List.cons_append, List.drop_succ_cons]
    rw [show i + 1 + (d : Int) = i + ((d + 1 : Nat) : Int) by omega]
/-- An edit that lies behind changes nothing of later places. -/
theorem plc_later : ∀ (toks : List Int) (i : Int) (e : Ed) (l : List Ed), e.at_ < i → plc i toks (e :: l) = plc i toks l
  | [], i, e, l, h => by
    have h1 : ¬ e.at_ = i := by omega
    simp [plc, puts, h1]
  | t :: toks, i, e, l, h => by
    have h1 : ¬ e.at_ = i := by omega
    have ih := plc_later toks (i + 1) e l (by omega)
    have e1 : puts (e :: l) i = puts l i := by simp [puts, h1]
    have e2 : gone (e :: l) i = gone l i := by simp [gone, h1]
    rw [plc, plc, e1, e2, ih]
/-- The edits gone through once tell what they tell place by place. -/
theorem run_plc : ∀ (l : List Ed) (i : Int) (toks : List Int) (size : Int), may size l = true → size = i + toks.length → (∀ e ∈ l, i ≤ e.at_) → run i toks l = plc i toks l
  | [], i, toks, size, _, _, _ => by
    have h := plc_skip toks.length i toks [] (by simp) (Nat.le_refl _)
    rw [h]
    simp [run, plc, puts]
  | e :: l, i, toks, size, hm, hs, hi => by
    obtain ⟨h1, h2, h3⟩ := may_cons hm
    obtain ⟨o1, o2, o3, o4, o5⟩ := (oneE_iff size e).1 h1
    have hb := may_behind l hm
    have hie := hi e (by simp)
    have hd : (e.at_ - i).toNat ≤ toks.length := by omega
    have hall : ∀ f ∈ e :: l, i + ((e.at_ - i).toNat : Int) ≤ f.at_ := fun f hf => by
      rcases List.mem_cons.1 hf with rfl | hf
      · omega
      · have := (hb f hf).1; omega
    have hat : i + ((e.at_ - i).toNat : Int) = e.at_ := by omega
    have hsk := plc_skip (e.at_ - i).toNat i toks (e :: l) hall hd
    rw [hat] at hsk
    rw [run, hsk]
    congr 1
    cases hdr : e.drop with
    | true =>
      have o6 := o5 hdr
      have hlt : (e.at_ - i).toNat < toks.length := by omega
      have hne : ∀ f ∈ l, f.at_ ≠ e.at_ := fun f hf => by have := (hb f hf).2 hdr; omega
      rw [List.drop_eq_getElem_cons hlt, plc]
      have e1 : puts (e :: l) e.at_ = [] := by
        have := puts_none hne
        unfold puts at this ⊢
        simpa [List.filter_cons, hdr] using this
      have e2 : gone (e :: l) e.at_ = true := by simp [gone, hdr]
      rw [e1, e2, plc_later _ _ _ _ (by omega)]
      simp only [if_true, List.nil_append]
      refine run_plc l (e.at_ + 1) _ size h3 ?_ (fun f hf => by have := (hb f hf).2 hdr; omega)
      rw [List.length_drop]; omega
    | false =>
      have ih := run_plc l e.at_ (toks.drop (e.at_ - i).toNat) size h3 (by rw [List.length_drop]; omega) (fun f hf => (hb f hf).1)
      have e1 : ∀ j, puts (e :: l) j = (if e.at_ = j then [e.tok] else []) ++ puts l j := fun j => by
        unfold puts
        by_cases hj : e.at_ = j
        · simp [hj, hdr]
        · simp [hj]
      have e2 : ∀ j, gone (e :: l) j = gone l j := fun j => by simp [gone, hdr]
      rw [ih]
      simp only [Bool.false_eq_true, if_false]
      cases ht : toks.drop (e.at_ - i).toNat with
      | nil => rw [plc, plc, e1, if_pos rfl]; rfl
      | cons t r =>
        rw [plc, plc, e1, e2, if_pos rfl]
        have e3 : plc (e.at_ + 1) r (e :: l) = plc (e.at_ + 1) r l := plc_later _ _ _ _ (by omega)
        rw [e3]
        rfl
/-- What becomes of a word. -/
def becomes (w : List Int) (l : List Ed) : List Int := run 0 w l
theorem becomes_plc {w : List Int} {l : List Ed} (h : may w.length l = true) : becomes w l = plc 0 w l :=
  run_plc l 0 w w.length h (by omega) (fun e he => by
    obtain ⟨h1, _⟩ := (may_iff l w.length).1 h
    obtain ⟨i, hi, rfl⟩ := List.getElem_of_mem he
    exact ((oneE_iff _ _).1 (h1 i hi)).1)
theorem becomes_nil (w : List Int) : becomes w [] = w := rfl
/-- How many tokens an edit makes more. -/
def gain (l : List Ed) : Int := (l.map fun e => if e.drop then (-1 : Int) else 1).sum
theorem gain_cons (e : Ed) (l : List Ed) : gain (e :: l) = (if e.drop then -1 else 1) + gain l := rfl
theorem run_len : ∀ (l : List Ed) (i : Int) (toks : List Int) (size : Int), may size l = true → size = i + toks.length → (∀ e ∈ l, i ≤ e.at_) → ((run i toks l).length : Int) = toks.length + gain l
  | [], _, _, _, _, _, _ => by simp [run, gain]
  | e :: l, i, toks, size, hm, hs, hi => by
    obtain ⟨h1, h2, h3⟩ := may_cons hm
    obtain ⟨o1, o2, o3, o4, o5⟩ := (oneE_iff size e).1 h1
    have hb := may_behind l hm
    have hie := hi e (by simp)
    rw [run, gain_cons, List.length_append, List.length_take]
    cases hdr : e.drop with
    | true =>
      have o6 := o5 hdr
      have ih := run_len l (e.at_ + 1) (toks.drop ((e.at_ - i).toNat + 1)) size h3 (by rw [List.length_drop]; omega) (fun f hf => by have := (hb f hf).2 hdr; omega)
      rw [List.length_drop] at ih
      simp only [if_true]
      omega
    | false =>
      have ih := run_len l e.at_ (toks.drop (e.at_ - i).toNat) size h3 (by rw [List.length_drop]; omega) (fun f hf => (hb f hf).1)
      rw [List.length_drop] at ih
      simp only [Bool.false_eq_true, if_false, List.length_cons]
      omega
theorem becomes_len {w : List Int} {l : List Ed} (h : may w.length l = true) : ((becomes w l).length : Int) = w.length + gain l :=
  run_len l 0 w w.length h (by omega) (fun e he => by
    obtain ⟨h1, _⟩ := (may_iff l w.length).1 h
    obtain ⟨i, hi, rfl⟩ := List.getElem_of_mem he
    exact ((oneE_iff _ _).1 (h1 i hi)).1)
/-- Tokens that may be become tokens that may be. -/
theorem run_ok : ∀ (l : List Ed) (i : Int) (toks : List Int) (size : Int), may size l = true → (∀ t ∈ toks, 0 ≤ t ∧ t ≤ 15) → ∀ t ∈ run i toks l, 0 ≤ t ∧ t ≤ 15
  | [], _, _, _, _, h, t, ht => h t ht
  | e :: l, i, toks, size, hm, h, t, ht => by
    obtain ⟨h1, _, h3⟩ := may_cons hm
    obtain ⟨o1, o2, o3, o4, o5⟩ := (oneE_iff size e).1 h1
    rw [run] at ht
    rcases List.mem_append.1 ht with ht | ht
    · exact h t (List.mem_of_mem_take ht)
    · cases hdr : e.drop with
      | true =>
        rw [hdr] at ht
        exact run_ok l _ _ size h3 (fun t ht => h t (List.mem_of_mem_drop ht)) t ht
      | false =>
        rw [hdr] at ht
        rcases List.mem_cons.1 ht with rfl | ht
        · exact ⟨o3, o4⟩
        · exact run_ok l _ _ size h3 (fun t ht => h t (List.mem_of_mem_drop ht)) t ht
theorem becomes_ok {w : List Int} {l : List Ed} (h : may w.length l = true) (hw : okW w = true) (hs : (w.length : Int) + gain l ≤ 24) : okW (becomes w l) = true := by
  have h1 := becomes_len h
  exact (okW_iff _).2 ⟨by omega, run_ok l 0 w w.length h ((okW_iff w).1 hw).2⟩
/-- All is dropped, and another word is put in. -/
def dropsAt (i : Int) : Nat → List Ed
  | 0 => []
  | k + 1 => ⟨i, true, 0⟩ :: dropsAt (i + 1) k
def putsAt (i : Int) (v : List Int) : List Ed := v.map fun t => ⟨i, false, t⟩
def allOf (w v : List Int) : List Ed := dropsAt 0 w.length ++ putsAt w.length v
theorem dropsAt_len : ∀ (k : Nat) (i : Int), (dropsAt i k).length = k
  | 0, _ => rfl
  | k + 1, i => by rw [dropsAt, List.length_cons, dropsAt_len k]
theorem dropsAt_at : ∀ (k : Nat) (i : Int) (j : Nat), j < k → (dropsAt i k)[j]? = some ⟨i + j, true, 0⟩
  | 0, _, _, h => by omega
  | k + 1, i, 0, _ => by simp [dropsAt]
  | k + 1, i, j + 1, h => by
    rw [dropsAt, List.getElem?_cons_succ, dropsAt_at k (i + 1) j (by omega), show i + 1 + (j : Int) = i + ((j + 1 : Nat) : Int) by omega]
theorem dropsAt_snoc : ∀ (k : Nat) (i : Int), dropsAt i (k + 1) = dropsAt i k ++ [⟨i + k, true, 0⟩]
  | 0, i => by simp [dropsAt]
  | k + 1, i => by
    rw [dropsAt, dropsAt_snoc k (i + 1), dropsAt, List.cons_append, show i + 1 + (k : Int) = i + ((k + 1 : Nat) : Int) by omega]
theorem run_puts (j : Int) : ∀ v : List Int, run j [] (putsAt j v) = v
  | [] => rfl
  | t :: v => by
    have ih := run_puts j v
    show run j [] (⟨j, false, t⟩ :: putsAt j v) = _
    rw [run]
    simp only [List.take_nil, List.nil_append, Bool.false_eq_true, if_false, List.drop_nil, ih]
theorem run_drops : ∀ (toks : List Int) (i : Int) (r : List Ed), run i toks (dropsAt i toks.length ++ r) = run (i + toks.length) [] r
  | [], i, r => by
    show run i [] r = run (i + ((0 : Nat) : Int)) [] r
    rw [show i + ((0 : Nat) : Int) = i by omega]
  | t :: toks, i, r => by
    have ih := run_drops toks (i + 1) r
    rw [List.length_cons, dropsAt, List.cons_append, run]
    simp only [Int.sub_self, Int.toNat_zero, List.take_zero, List.nil_append, if_true, Nat.zero_add, List.drop_succ_cons, List.drop_zero]
    rw [ih, show i + 1 + (toks.length : Int) = i + ((toks.length + 1 : Nat) : Int) by omega]
theorem becomes_all (w v : List Int) : becomes w (allOf w v) = v := by
  unfold becomes allOf
  rw [run_drops w 0 (putsAt w.length v), Int.zero_add]
  exact run_puts _ v
theorem may_puts (size : Int) (h0 : 0 ≤ size) : ∀ v : List Int, (∀ t ∈ v, 0 ≤ t ∧ t ≤ 15) → may size (putsAt size v) = true
  | [], _ => rfl
  | t :: v, h => by
    have ih := may_puts size h0 v fun t ht => h t (by simp [ht])
    have ht := h t (by simp)
    refine may_of ((oneE_iff _ _).2 ⟨h0, Int.le_refl _, ht.1, ht.2, fun h => by cases h⟩) (fun f r e => ?_) ih
    have hf : f ∈ putsAt size v := by rw [show putsAt size v = f :: r from e]; simp
    obtain ⟨u, _, rfl⟩ := List.mem_map.1 hf
    exact (nextE_iff _ _).2 ⟨Int.le_refl _, fun h => by cases h⟩
theorem may_drops (size : Int) (r : List Ed) (hr : may size r = true) : ∀ (k : Nat) (i : Int), 0 ≤ i → i + k = size → (∀ f q, r = f :: q → size ≤ f.at_) → may size (dropsAt i k ++ r) = true
  | 0, _, _, _, _ => hr
  | k + 1, i, h0, hs, hf => by
    have ih := may_drops size r hr k (i + 1) (by omega) (by omega) hf
    refine may_of ((oneE_iff _ _).2 ⟨h0, by show i ≤ size; omega, Int.le_refl _, by show (0 : Int) ≤ 15; omega, fun _ => ⟨by show i < size; omega, rfl⟩⟩) (fun f q e => ?_) ih
    refine (nextE_iff _ _).2 ?_
    cases k with
    | zero =>
      have := hf f q e
      exact ⟨by show i ≤ f.at_; omega, fun _ => by show i < f.at_; omega⟩
    | succ k =>
      have e : (⟨i + 1, true, 0⟩ : Ed) :: (dropsAt (i + 1 + 1) k ++ r) = f :: q := e
      injection e with e _
      subst e
      exact ⟨by show i ≤ i + 1; omega, fun _ => by show i < i + 1; omega⟩
theorem may_all (w v : List Int) (hv : ∀ t ∈ v, 0 ≤ t ∧ t ≤ 15) : may w.length (allOf w v) = true :=
  may_drops w.length _ (may_puts w.length (by omega) v hv) w.length 0 (Int.le_refl _) (by omega) (fun f q e => by
    have hf : f ∈ putsAt w.length v := by rw [e]; simp
    obtain ⟨u, _, rfl⟩ := List.mem_map.1 hf
    exact Int.le_refl _)

/-- Words as bytes, and back. -/
def wBytes (w : List Int) : List Nat := Wr.wnums w
def readW (l : List Nat) : List Nat × Int := if Wr.fin (Wr.nums ⟨l, 0⟩ 24 15).2 = 0 then ((Wr.nums ⟨l, 0⟩ 24 15).1, 0) else ([], Wr.fin (Wr.nums ⟨l, 0⟩ 24 15).2)
end Go.Proofs.Ytmegpmkjhbihaaa.Wd
