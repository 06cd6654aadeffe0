/- WordBack's contract: words come back from their bytes, and bytes from their words. -/
import Derived.Test.YtmegpmkjhbihaaaDAwake
namespace Go.Proofs.Ytmegpmkjhbihaaa
open Go.RowKit

theorem readW_back {l : List Nat} (hb : ∀ c ∈ l, c < 256) (h : (Wd.readW l).2 = 0) : Wd.okW (ns (Wd.readW l).1) = true ∧ wbOf (ns (Wd.readW l).1) = l ∧ wbErr (ns (Wd.readW l).1) = 0 := by
  by_cases hf : Wr.fin (Wr.nums ⟨l, 0⟩ 24 15).2 = 0
  · rw [readW_ok hf]
    have ho := Wd.okW_nums ⟨l, 0⟩
    have hs : (Wr.nums ⟨l, 0⟩ 24 15).2 = ⟨[], 0⟩ := by
      generalize (Wr.nums ⟨l, 0⟩ 24 15).2 = s at hf
      obtain ⟨sl, se⟩ := s
      unfold Wr.fin at hf
      cases sl with
      | nil => simp at hf; rw [hf]
      | cons a r => simp at hf
    refine ⟨ho, ?_, wbErr_ok ho⟩
    rw [wbOf_ok ho]
    exact (Wd.nums_inv hb hs).symm
  · rw [readW_no hf] at h
    exact absurd h hf
theorem readW_wnums {xs : List Int} (h : Wd.okW xs = true) : Wd.readW (Wr.wnums xs) = (xs.map Int.toNat, 0) := by
  have e := Wd.nums_back h []
  rw [List.append_nil] at e
  have hf : Wr.fin (Wr.nums ⟨Wr.wnums xs, 0⟩ 24 15).2 = 0 := by rw [e]; rfl
  rw [readW_ok hf, e]
theorem readW_of {xs : List Int} (h : Wd.okW xs = true) : ns (Wd.readW (wbOf xs)).1 = xs ∧ (Wd.readW (wbOf xs)).2 = 0 := by
  rw [wbOf_ok h, readW_wnums h]
  exact ⟨Wd.ns_toNat fun t ht => (((Wd.okW_iff xs).1 h).2 t ht).1, rfl⟩
theorem wbOf_byte (xs : List Int) : ∀ c ∈ wbOf xs, c < 256 := by
  cases h : Wd.okW xs with
  | true => rw [wbOf_ok h]; exact Wd.wnums_byte h
  | false => rw [wbOf_no h]; simp
theorem wbOf_len (xs : List Int) : (wbOf xs).length ≤ 300 := by
  cases h : Wd.okW xs with
  | true =>
    rw [wbOf_ok h]
    have := wnums_len xs
    have := ((Wd.okW_iff xs).1 h).1
    omega
  | false => rw [wbOf_no h]; simp
theorem wbOf_same {xs ys : List Int} (h : Wd.okW xs = true) (h2 : Wd.okW ys = true) : decide (wbOf xs = wbOf ys) = decide (xs = ys) := by
  rw [wbOf_ok h, wbOf_ok h2]
  by_cases e : xs = ys
  · rw [e]; simp
  · rw [decide_eq_false e, decide_eq_false fun h3 => e (Wd.wnums_inj h h2 h3)]

set_option maxRecDepth 100000 in
set_option maxHeartbeats 4000000 in
theorem wordBack_any (A : Option Addr) (len cap : Nat) (xs : List Int) (A' : Option Addr) (len' cap' : Nat) (ys : List Int) (Ab : Option Addr) (lb cb : Nat) (bs : List Nat) (W : World)
    (hlen : len = xs.length) (hmax : len ≤ 9223372036854775807) (hr : Rd W W.heap.size A (ins xs)) (hlen' : len' = ys.length) (hmax' : len' ≤ 9223372036854775807) (hr' : Rd W W.heap.size A' (ins ys))
    (hlb : lb = bs.length) (hmb : lb ≤ 9223372036854775807) (hrb : Rd W W.heap.size Ab (bys bs)) (hby : ∀ c ∈ bs, c < 256) :
    Calls Try.prog 4 #[.slice A len cap, .slice A' len' cap', .slice Ab lb cb] W fun e w' => e = .returned (.bool true) ∧ Bl W w' := by
  have HL := Lib.hid hlen; clear hlen
  have HR := Lib.hid hr; clear hr
  have HL' := Lib.hid hlen'; clear hlen'
  have HR' := Lib.hid hr'; clear hr'
  have HLb := Lib.hid hlb; clear hlb
  have HRb := Lib.hid hrb; clear hrb
  have HY := Lib.hid hby; clear hby
  have HBack : Hid ((Wd.readW bs).2 = 0 → Wd.okW (ns (Wd.readW bs).1) = true ∧ wbOf (ns (Wd.readW bs).1) = bs ∧ wbErr (ns (Wd.readW bs).1) = 0) := readW_back HY.out
  go_enter Try.func4, Try.ntmps4
  go_wp2_with fail
  refine (dawake_any _).mono ?_
  rintro e w1 ⟨rfl, hb1⟩
  have HB1 := Lib.hid (Bl.own hb1); clear hb1
  by_cases h1 : 60 < len
  · go_wp2_with fail
    go_ret
    exact ⟨rfl, HB1.out⟩
  by_cases h2 : 60 < len'
  · go_wp2_with fail
    go_ret
    exact ⟨rfl, HB1.out⟩
  by_cases h3 : 300 < lb
  · go_wp2_with fail
    go_ret
    exact ⟨rfl, HB1.out⟩
  go_wp2_with fail
  refine (dread_any Ab lb cb bs _ w1.heap.size HLb.out (by omega) (rd_far HRb.out HB1.out) HY.out).mono ?_
  intro e w2 h2
  obtain ⟨A2, c2, rfl, hc2, ho2, hb2⟩ := h2
  have HU := Lib.hid (Rd.own ho2)
  have HB2 := Lib.hid (HB1.out.trans hb2)
  have hl2 : (ns (Wd.readW bs).1).length ≤ 24 ∨ (Wd.readW bs).2 ≠ 0 := by
    by_cases hz : (Wd.readW bs).2 = 0
    · exact .inl ((Wd.okW_iff _).1 (HBack.out hz).1).1
    · exact .inr hz
  clear ho2 hb2 HB1
  generalize ns (Wd.readW bs).1 = D1 at *
  generalize (Wd.readW bs).2 = D2 at *
  have hcase : D2 = 0 ∨ D2 ≠ 0 := by omega
  rcases hcase with hz | hz
  case' inl =>
    subst hz
    obtain ⟨i1, i2, i3⟩ := HBack.out rfl
    have I1 := Lib.hid i1; have I2 := Lib.hid i2; have I3 := Lib.hid i3
    clear i1 i2 i3
    have hl2 : D1.length ≤ 24 := by rcases hl2 with h | h; exact h; exact absurd rfl h
    go_wp2_with fail
    refine (dbytes_any A2 D1.length c2 D1 _ w2.heap.size rfl (by omega) HU.out (Nat.le_refl _)).mono ?_
    intro e w3 h3
    obtain ⟨A3, c3, rfl, hc3, hr3, hb3⟩ := h3.lit (n := lb) I3.out I2.out HLb.out.symm
    have HC := Lib.hid hr3
    have HB3 := Lib.hid (HB2.out.trans hb3)
    have HU3 := Lib.hid (rd_far HU.out hb3)
    clear h3 hr3 hb3
    go_wp2_with fail
    refine (dsame_bl A3 Ab lb lb c3 cb bs bs _ w3.heap.size HLb.out HLb.out (by omega) HC.out (rd_far HRb.out HB3.out)).mono ?_
    rintro e w4 ⟨rfl, hb4⟩
    rw [decide_eq_true rfl]
    have HB4 := Lib.hid (HB3.out.trans hb4)
    have HU4 := Lib.hid (rd_far HU3.out hb4)
    clear hb4
    go_wp2_with fail
    refine (dright_any A2 D1.length c2 D1 _ w4.heap.size rfl (by omega) HU4.out).mono ?_
    rintro e w' ⟨rfl, rfl⟩
    rw [I1.out]
    go_wp2_with fail
    have HBt := HB4
    clear HB4 HU4 HB3 HU3 HC HB2 HU I1 I2 I3
  case' inr =>
    have hz' : (D2 == 0) = false := by simpa using hz
    clear hz
    go_wp2_with fail
    generalize hwt : w2 = w4 at *
    clear hwt
    have HBt := HB2
    clear HB2 HU
  all_goals
    clear HBack
    cases ho : Wd.okW xs with
    | false =>
      have HO := Lib.hid ho; clear ho
      refine (dbytes_any A len cap xs _ w4.heap.size HL.out hmax (rd_far HR.out HBt.out) (Nat.le_refl _)).mono ?_
      intro e w5 h5
      obtain ⟨A5, c5, rfl, hc5, hr5, hb5⟩ := h5.lit (n := 0) (wbErr_no HO.out) (wbOf_no HO.out) rfl
      have HB5 := Lib.hid (HBt.out.trans hb5)
      clear h5 hr5 hb5
      go_wp2_with fail
      refine (dbytes_any A' len' cap' ys _ w5.heap.size HL'.out hmax' (rd_far HR'.out HB5.out) (Nat.le_refl _)).mono ?_
      intro e w6 h6
      obtain ⟨A6, n6, c6, rfl, hn6, hc6, ho6, hb6⟩ := h6
      have HB6 := Lib.hid (HB5.out.trans hb6)
      clear ho6 hb6
      go_wp2_with fail
      refine (dright_any A len cap xs _ w6.heap.size HL.out hmax (rd_far HR.out HB6.out)).mono ?_
      rintro e w' ⟨rfl, rfl⟩
      rw [HO.out]
      go_wp2_with fail
      go_ret
      exact ⟨rfl, HB6.out⟩
    | true =>
      have HO := Lib.hid ho; clear ho
      have hwl := wbOf_len xs
      obtain ⟨q1, q2⟩ := readW_of HO.out
      have Q1 := Lib.hid q1; have Q2 := Lib.hid q2
      clear q1 q2
      refine (dbytes_any A len cap xs _ w4.heap.size HL.out hmax (rd_far HR.out HBt.out) (Nat.le_refl _)).mono ?_
      intro e w5 h5
      obtain ⟨A5, c5, rfl, hc5, hr5, hb5⟩ := h5.lit (n := (wbOf xs).length) (wbErr_ok HO.out) rfl rfl
      have HX5 := Lib.hid hr5
      have HB5 := Lib.hid (HBt.out.trans hb5)
      clear h5 hr5 hb5
      go_wp2_with fail
      refine (dbytes_any A' len' cap' ys _ w5.heap.size HL'.out hmax' (rd_far HR'.out HB5.out) (Nat.le_refl _)).mono ?_
      intro e w6 h6
      obtain ⟨A6, c6, rfl, hc6, hr6, hb6⟩ := h6.lit (n := (wbOf ys).length) rfl rfl rfl
      have HY6 := Lib.hid hr6
      have HX6 := Lib.hid (rd_far HX5.out hb6)
      have HB6 := Lib.hid (HB5.out.trans hb6)
      clear h6 hr6 hb6 HX5 HB5
      go_wp2_with fail
      refine (dread_any A5 (wbOf xs).length c5 (wbOf xs) _ w6.heap.size rfl (by omega) HX6.out (wbOf_byte xs)).mono ?_
      rw [Q1.out, Q2.out]
      intro e w7 h7
      obtain ⟨A7, c7, rfl, hc7, hr7, hb7⟩ := h7.lit (n := len) HL.out.symm
      have HK7 := Lib.hid hr7
      have HX7 := Lib.hid (rd_far HX6.out hb7)
      have HY7 := Lib.hid (rd_far HY6.out hb7)
      have HB7 := Lib.hid (HB6.out.trans hb7)
      clear h7 hr7 hb7 HX6 HY6 HB6
      go_wp2_with fail
      refine (disame_bl A7 A len len c7 cap xs xs _ w7.heap.size HL.out HL.out hmax HK7.out (rd_far HR.out HB7.out)).mono ?_
      rintro e w8 ⟨rfl, hb8⟩
      rw [decide_eq_true rfl]
      have HX8 := Lib.hid (rd_far HX7.out hb8)
      have HY8 := Lib.hid (rd_far HY7.out hb8)
      have HB8 := Lib.hid (HB7.out.trans hb8)
      clear hb8 HX7 HY7 HB7 HK7
      have hwl2 := wbOf_len ys
      cases ho2 : Wd.okW ys with
      | false =>
        have he : (wbErr ys != 0) = true := by rw [wbErr_no ho2]; rfl
        clear ho2
        go_wp2_with fail
        go_ret
        exact ⟨rfl, HB8.out⟩
      | true =>
        have he : (wbErr ys != 0) = false := by rw [wbErr_ok ho2]; rfl
        have HS := Lib.hid (wbOf_same HO.out ho2)
        clear ho2
        go_wp2_with fail
        refine (dsame_bl A5 A6 _ _ c5 c6 (wbOf xs) (wbOf ys) _ w8.heap.size rfl rfl (by omega) HX8.out HY8.out).mono ?_
        rintro e w9 ⟨rfl, hb9⟩
        rw [HS.out]
        have HB9 := Lib.hid (HB8.out.trans hb9)
        clear hb9
        go_wp2_with fail
        refine (disame_bl A A' len len' cap cap' xs ys _ w9.heap.size HL.out HL'.out hmax (rd_far HR.out HB9.out) (rd_far HR'.out HB9.out)).mono ?_
        rintro e w10 ⟨rfl, hb10⟩
        have HB10 := Lib.hid (HB9.out.trans hb10)
        clear hb10
        generalize decide (xs = ys) = dd
        cases dd
        all_goals
          go_wp2_with fail
          go_ret
          exact ⟨rfl, HB10.out⟩
end Go.Proofs.Ytmegpmkjhbihaaa
