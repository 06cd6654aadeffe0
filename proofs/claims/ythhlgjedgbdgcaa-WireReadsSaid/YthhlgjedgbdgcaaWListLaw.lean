/- WireList: a list of anything is read as its things are, one by one. -/
import Derived.Test.YthhlgjedgbdgcaaWList
namespace Go.Proofs.Ythhlgjedgbdgcaa
open Go.RowKit

/-- The law's own reader, the reader that List has read, its row, and the greatest number's cell. -/
def LL (w : World) (gr gs gt : Nat) (sr ss : Wr.St) (tp : Nat) (v : Value) (xs : List (Int × Int)) (wr : World) : Prop :=
  Rdr wr gr gr sr ∧ Rdr wr gs gs ss ∧ Bk wr gt 3 #[.int .i64 tp] ∧ wr.ownsRow w.heap.size 32 4 v xs.length (lrow xs) ∧ gr ≠ gs ∧ w.heap.size ≤ gr ∧ w.heap.size ≤ gs ∧ Bl w wr
section
variable {w wr w1 : World} {gr gs gt tp : Nat} {sr ss s' : Wr.St} {v u : Value} {xs : List (Int × Int)} {e : Ending}
theorem LL.r (h : LL w gr gs gt sr ss tp v xs wr) : Rdr wr gr gr sr := h.1
theorem LL.s (h : LL w gr gs gt sr ss tp v xs wr) : Rdr wr gs gs ss := h.2.1
theorem LL.t (h : LL w gr gs gt sr ss tp v xs wr) : Bk wr gt 3 #[.int .i64 tp] := h.2.2.1
theorem LL.row (h : LL w gr gs gt sr ss tp v xs wr) : wr.ownsRow w.heap.size 32 4 v xs.length (lrow xs) := h.2.2.2.1
theorem LL.le (h : LL w gr gs gt sr ss tp v xs wr) : w.heap.size ≤ gs := h.2.2.2.2.2.2.1
theorem LL.b (h : LL w gr gs gt sr ss tp v xs wr) : Bl w wr := h.2.2.2.2.2.2.2
theorem LL.bl (h : LL w gr gs gt sr ss tp v xs wr) (hb : Bl wr w1) : LL w gr gs gt sr ss tp v xs w1 :=
  ⟨h.1.bl hb, h.2.1.bl hb, h.2.2.1.bl hb, own_bl h.2.2.2.1 hb, h.2.2.2.2.1, h.2.2.2.2.2.1, h.2.2.2.2.2.2.1, h.b.trans hb⟩
theorem LL.next (h : LL w gr gs gt sr ss tp v xs wr) (hr : Rdr w1 gs gs s') (hf : Fr (fun k => k = gs) wr w1) : LL w gr gs gt sr s' tp v xs w1 :=
  ⟨h.1.fr hf h.2.2.2.2.1 h.2.1.noByte, hr, h.2.2.1.fr hf (fun e => h.2.1.apart h.2.2.1 (by decide) e.symm), own_fr h.2.2.2.1 hf fun k hk e => h.2.1.row h.2.2.2.1 (by decide) (by rw [hk, e]), h.2.2.2.2.1, h.2.2.2.2.2.1, h.2.2.2.2.2.2.1, h.b.fr hf fun i hi e => by have := h.le; omega⟩
theorem LL.fr {S : Nat → Prop} {W : Nat} (h : LL w gr gs gt sr ss tp v xs wr) (hf : Fr S wr w1) (h1 : gr < W) (h2 : gs < W) (h3 : gt < W) (h4 : ∀ j, v.ownBlock = some j → j < W) (h5 : w.heap.size ≤ W) (hS : ∀ k, S k → W ≤ k) : LL w gr gs gt sr ss tp v xs w1 :=
  ⟨h.1.fr hf (fun e => by have := hS _ e; omega) (NoByte.above fun k hk => by have := hS k hk; omega), h.2.1.fr hf (fun e => by have := hS _ e; omega) (NoByte.above fun k hk => by have := hS k hk; omega), h.2.2.1.fr hf (fun e => by have := hS _ e; omega),
    own_fr h.2.2.2.1 hf (fun j hj e => by have := hS _ e; have := h4 j hj; omega), h.2.2.2.2.1, h.2.2.2.2.2.1, h.2.2.2.2.2.2.1, h.b.fr hf fun i hi e => by have := hS _ e; omega⟩
end

theorem cells_new {W : World} {g : Nat} (hg : g = W.heap.size) (cs : Array Value) (t : TypeId) : ∀ j u, cs.toList[j]? = some u → (W.alloc (.cells cs t)).cell? ((⟨g, 0, none⟩ : Addr).add j) = some u := by
  subst hg
  exact World.news_of_block (cs := cs) (t := t) (fr := (0, 0)) (heap_alloc_new W _)
/-- A row of things has grown by one. -/
theorem ll_next {w W5 w8 w9 : World} {gr gs gt tp k : Nat} {sr s1 : Wr.St} {v v1 v2 : Value} {xs : List (Int × Int)} {o : Obj} (h : LL w gr gs gt sr (lone (lmany k s1 tp).2 tp).2 tp v xs w8) (ho : w8.ownsRow W5.heap.size 32 4 v1 k (lrow (lmany k s1 tp).1))
    (ho' : w9.ownsRow W5.heap.size 32 4 v2 (k + 1) (lrow (lmany k s1 tp).1 ++ lcells (lone (lmany k s1 tp).2 tp).1)) (hg : (w8.alloc o).grownBy w9 v1.ownBlock)
    (h1 : gr < W5.heap.size) (h2 : gs < W5.heap.size) (h3 : gt < W5.heap.size) (h4 : ∀ j, v.ownBlock = some j → j < W5.heap.size) (h5 : w.heap.size ≤ W5.heap.size) :
    LL w gr gs gt sr (lmany (k + 1) s1 tp).2 tp v xs w9 ∧ w9.ownsRow W5.heap.size 32 4 v2 (k + 1) (lrow (lmany (k + 1) s1 tp).1) := by
  have e := lmany_snoc k s1 tp
  rw [e, lrow_snoc]
  exact ⟨LL.fr (S := fun j => v1.ownBlock = some j) (W := W5.heap.size) (h.bl ((Bl.refl w8).alloc o)) ((Fr.refl _ _).grown hg fun _ h _ => h) h1 h2 h3 h4 h5 fun j hj => (ho.lt j hj).1, ho'⟩

set_option maxRecDepth 100000 in
set_option maxHeartbeats 4000000 in
theorem wireList_any (Ab : Option Addr) (lb cb : Nat) (l : List Nat) (many tops : Int) (w : World) (hlb : lb = l.length) (hrb : Rd w w.heap.size Ab (bys l)) (hby : ∀ c ∈ l, c < 256) (ht63 : tops < 9223372036854775808) :
    Calls Try.prog 6 #[.slice Ab lb cb, .int .i64 many, .int .i64 tops] w fun e w' => e = .returned (.bool true) ∧ Bl w w' := by
  obtain ⟨i0, hi, hz0, hz1, hz2⟩ := info_parts thing_info
  have HLB := Lib.hid hlb; clear hlb
  have HRB := Lib.hid hrb; clear hrb
  have HBY := Lib.hid hby; clear hby
  by_cases hbad : 500 < lb ∨ many < 0 ∨ 100 < many ∨ tops < 0
  · go_enter Try.func6, Try.ntmps6
    go_wp2_with fail
    refine (awake_any _).mono ?_
    rintro e w1 ⟨rfl, hb1⟩
    have HB1 := Lib.hid (((Bl.refl w).alloc _).trans hb1)
    have hc1 : w1.cell? ⟨w.heap.size, 0, none⟩ = some (.int .i64 tops) := ((Bk.new w 3 #[.int .i64 tops]).bl hb1).cell 0
    clear hb1
    by_cases h1 : 500 < lb
    · go_wp2_with fail
      go_ret
      exact ⟨rfl, HB1.out⟩
    · by_cases h2 : many < 0
      · go_wp2_with fail
        go_ret
        exact ⟨rfl, HB1.out⟩
      · by_cases h3 : 100 < many
        · go_wp2_with fail
          go_ret
          exact ⟨rfl, HB1.out⟩
        · have h4 : tops < 0 := by omega
          clear hbad
          go_wp2_with fail
          go_ret
          exact ⟨rfl, HB1.out⟩
  · have h1 : ¬ 500 < lb := fun h => hbad (.inl h)
    obtain ⟨mn, rfl⟩ : ∃ mn : Nat, many = (mn : Int) := ⟨many.toNat, by omega⟩
    obtain ⟨tp, rfl⟩ : ∃ tp : Nat, tops = (tp : Int) := ⟨tops.toNat, by omega⟩
    have h3 : mn ≤ 100 := by omega
    have h3' : ¬ (100 < mn) := by omega
    have h2' : ¬ ((mn : Int) < 0) := by omega
    have h4' : ¬ ((tp : Int) < 0) := by omega
    have HTP : Hid (tp < 9223372036854775808) := by unfold Hid; omega
    have hd1 : decide ((500 : Int) < (lb : Int)) = false := by simp; omega
    have hd2 : decide ((mn : Int) < 0) = false := by simp
    have hd3 : decide ((100 : Int) < (mn : Int)) = false := by simp; omega
    have hd4 : decide ((tp : Int) < 0) = false := by simp
    clear hbad ht63
    go_enter Try.func6, Try.ntmps6
    go_wp2_with fail
    refine (awake_any _).mono ?_
    rintro e w1 ⟨rfl, hb1⟩
    have HB1 := Lib.hid (((Bl.refl w).alloc (.cells #[.int .i64 (tp : Int)] 3)).trans hb1)
    have HT1 := Lib.hid ((Bk.new w 3 #[.int .i64 (tp : Int)]).bl hb1)
    have hc1 : w1.cell? ⟨w.heap.size, 0, none⟩ = some (.int .i64 tp) := HT1.out.cell 0
    clear hb1
    go_wp2_with fail
    refine (new_any Ab lb cb l _ w.heap.size HLB.out (by omega) (HRB.out.below HB1.out) HBY.out).mono ?_
    rintro e w2 ⟨gr, rfl, hgr, hr2, hb2⟩
    have HB2 : Hid (Bl w w2) := HB1.out.trans hb2
    have HT2 := Lib.hid (HT1.out.bl hb2)
    have HR2 := Lib.hid hr2
    have hgr0 : w.heap.size ≤ gr := Nat.le_trans HB1.out.size hgr
    clear hr2 hb2 hc1
    go_wp2_with fail
    refine (new_any Ab lb cb l _ w.heap.size HLB.out (by omega) (HRB.out.below HB2.out) HBY.out).mono ?_
    rintro e w3 ⟨gs, rfl, hgs, hr3, hb3⟩
    have HB3 : Hid (Bl w w3) := HB2.out.trans hb3
    have HT3 := Lib.hid (HT2.out.bl hb3)
    have HR3 := Lib.hid (HR2.out.bl hb3)
    have HS3 := Lib.hid hr3
    have hgs0 : w.heap.size ≤ gs := Nat.le_trans HB2.out.size hgs
    have hrs : gr ≠ gs := by have := HR2.out.lt; omega
    clear hr3 hb3
    go_wp2_with fail
    refine (list_any gr gr w.heap.size ⟨l, 0⟩ mn tp _ HR3.out HT3.out (by omega) HTP.out).mono ?_
    rintro e w4 ⟨v4, rfl, ho4, hr4, hf4⟩
    obtain ⟨A4, c4, hv4, _⟩ := own_form ho4
    subst hv4
    have HL4 : Hid (LL w gr gs w.heap.size (llist ⟨l, 0⟩ mn tp).2 ⟨l, 0⟩ tp (.slice A4 (llist ⟨l, 0⟩ mn tp).1.length c4) (llist ⟨l, 0⟩ mn tp).1 w4) :=
      ⟨hr4, HS3.out.fr hf4 (fun e => hrs e.symm) HR3.out.noByte, HT3.out.fr hf4 (fun e => HR3.out.apart HT3.out (by decide) e.symm), own_base ho4 (fun k hk => Nat.le_trans HB3.out.size (ho4.lt k hk).1), hrs, hgr0, hgs0, HB3.out.fr hf4 fun i hi e => by omega⟩
    clear ho4 hr4 hf4
    go_wp2_with fail
    refine (num_any gs gs ⟨l, 0⟩ mn _ HL4.out.s (by omega)).mono ?_
    rintro e w5 ⟨rfl, hr5, hf5⟩
    have HL5 := Lib.hid (HL4.out.next hr5 hf5)
    have hn := Wr.num_le ⟨l, 0⟩ mn
    have HDone : Hid ((lmany (Wr.num ⟨l, 0⟩ mn).1 (Wr.num ⟨l, 0⟩ mn).2 tp).2.e = 0 → llist ⟨l, 0⟩ mn tp = lmany (Wr.num ⟨l, 0⟩ mn).1 (Wr.num ⟨l, 0⟩ mn).2 tp) := llist_done
    have HWrong : Hid ((lmany (Wr.num ⟨l, 0⟩ mn).1 (Wr.num ⟨l, 0⟩ mn).2 tp).2.e ≠ 0 → llist ⟨l, 0⟩ mn tp = ([], (lmany (Wr.num ⟨l, 0⟩ mn).1 (Wr.num ⟨l, 0⟩ mn).2 tp).2)) := fun h => llist_wrong (Nat.le_refl _) h
    clear hr5 hf5
    generalize (Wr.num ⟨l, 0⟩ mn).1 = n at *
    generalize (Wr.num ⟨l, 0⟩ mn).2 = s1 at *
    generalize llist ⟨l, 0⟩ mn tp = L at *
    clear HL4 HS3 HR3 HT3 HR2 HT2 HT1
    go_wp2_with fail
    have hgr5 : gr < w5.heap.size := HL5.out.r.lt
    have hgs5 : gs < w5.heap.size := HL5.out.s.lt
    have hgt5 : w.heap.size < w5.heap.size := HL5.out.t.lt
    have HV4 : Hid (∀ j, (Value.slice A4 L.1.length c4).ownBlock = some j → j < w5.heap.size) := fun j hj => (HL5.out.row.lt j hj).2
    go_loopw [11, 44] (fun v i wr => ∃ k : Nat, k ≤ n ∧ i = .int .i64 k ∧ Hid (LL w gr gs w.heap.size L.2 (lmany k s1 tp).2 tp (.slice A4 L.1.length c4) L.1 wr) ∧ Hid (wr.ownsRow w5.heap.size 32 4 v k (lrow (lmany k s1 tp).1)) ∧ w5.heap.size ≤ wr.heap.size) (fun _ i _ => n - (intOf i).toNat)
    case atStart => exact ⟨0, Nat.zero_le _, rfl, HL5, World.ownsRow_nil _ _ _ _, Nat.le_refl _⟩
    case round =>
      obtain ⟨k, hk, rfl, HLk, HOk, hs5⟩ := hrel
      by_cases hlt : k < n
      · have hct : wr.cell? ⟨w.heap.size, 0, none⟩ = some (.int .i64 tp) := HLk.out.t.cell 0
        go_wp2_with fail
        refine (num_any gs gs (lmany k s1 tp).2 tp _ HLk.out.s HTP.out).mono ?_
        rintro e w6 ⟨rfl, hr6, hf6⟩
        have HL6 := Lib.hid ((HLk.out.next hr6 hf6).bl ((Bl.refl w6).alloc (.cells #[.int .i64 0, .int .i64 ((Wr.num (lmany k s1 tp).2 tp).1 : Int), .slice none 0 0, .int .i64 0] 32)))
        have HO6' := Lib.hid (own_fr HOk.out hf6 fun i hi e => HLk.out.s.row HOk.out (by decide) (by rw [hi, e]))
        have HO6 := Lib.hid (HO6'.out.alloc (.cells #[.int .i64 0, .int .i64 ((Wr.num (lmany k s1 tp).2 tp).1 : Int), .slice none 0 0, .int .i64 0] 32))
        have HK6 := Lib.hid (Bk.new w6 32 #[.int .i64 0, .int .i64 ((Wr.num (lmany k s1 tp).2 tp).1 : Int), .slice none 0 0, .int .i64 0])
        have hs6 : w5.heap.size ≤ w6.heap.size := Nat.le_trans hs5 hf6.size
        clear hr6 hf6 hct
        go_wp2_with fail
        refine (bool_any gs gs _ _ HL6.out.s).mono ?_
        rintro e w7 ⟨rfl, hr7, hf7⟩
        have HL7 := Lib.hid (HL6.out.next hr7 hf7)
        have HO7 := Lib.hid (own_fr HO6.out hf7 fun i hi e => HL6.out.s.row HO6.out (by decide) (by rw [hi, e]))
        have HK7 := Lib.hid (HK6.out.fr hf7 (by omega))
        have hs7 : w6.heap.size < w7.heap.size := HK7.out.lt
        have l0 : w7.cell? ⟨w6.heap.size, 0, none⟩ = some (.int .i64 0) := HK7.out.cell 0
        have l1 : w7.cell? ⟨w6.heap.size, 1, none⟩ = some (.int .i64 ((Wr.num (lmany k s1 tp).2 tp).1 : Int)) := HK7.out.cell 1
        have l2 : w7.cell? ⟨w6.heap.size, 2, none⟩ = some (.slice none 0 0) := HK7.out.cell 2
        have l3 : w7.cell? ⟨w6.heap.size, 3, none⟩ = some (.int .i64 0) := HK7.out.cell 3
        have g0 := HK7.out.free 0
        clear hr7 hf7
        by_cases hb : (Wr.num (Wr.num (lmany k s1 tp).2 tp).2 1).1 = 1
        · have hbt : decide ((Wr.num (Wr.num (lmany k s1 tp).2 tp).2 1).1 = 1) = true := by simp [hb]
          have HE : Hid (lcells (lone (lmany k s1 tp).2 tp).1 = [.int .i64 1, .int .i64 ((Wr.num (lmany k s1 tp).2 tp).1 : Int), .slice none 0 0, .int .i64 0]) := by unfold lone lcells; rw [if_pos hb]; exact rfl
          have HF8 : Hid (Fr (fun j => j = w6.heap.size) w7 (w7.setCell ⟨w6.heap.size, 0, none⟩ (.int .i64 1))) := (Fr.refl _ w7).own 0 _
          have HL8 := Lib.hid (LL.fr (W := w5.heap.size) HL7.out HF8.out hgr5 hgs5 hgt5 HV4.out (by omega) fun j hj => by omega)
          have HO8 := Lib.hid (own_fr HO7.out HF8.out fun j hj e => by have := (HO6'.out.lt j hj).2; omega)
          have HZ8 : Hid (w7.heap.size = (w7.setCell ⟨w6.heap.size, 0, none⟩ (.int .i64 1)).heap.size) := by unfold Hid; simp [World.setCell]
          clear hb
          go_wp2_with (at_builtin; refine wpList_append_own _ rfl (.tmp 53) (.tmp 55) 22 rfl w5.heap.size 32 i0 (.agg #[.int .i64 0, .int .i64 0, .slice none 0 0, .int .i64 0]) 4 48 Try.underlying22 hi hz0 hz1 hz2 rfl (by decide) _ _ _ rfl (HO8.out.alloc _) ⟨w7.heap.size, 0, none⟩ 1 1 [.int .i64 1, .int .i64 ((Wr.num (lmany k s1 tp).2 tp).1 : Int), .slice none 0 0, .int .i64 0] rfl rfl (cells_new HZ8.out #[.int .i64 1, .int .i64 ((Wr.num (lmany k s1 tp).2 tp).1 : Int), .slice none 0 0, .int .i64 0] 32) (by simp [Value.oneCell']) (by simp only [maxLen]; omega) (by omega) (by simp [World.setCell]; omega) ?_; intro v9 w9 hown9 hg9 _; rw [← HE.out] at hown9; have HX := Lib.hid (ll_next HL8.out HO8.out hown9 hg9 hgr5 hgs5 hgt5 HV4.out (by omega)); have hs9 : w5.heap.size ≤ w9.heap.size := Nat.le_trans (by simp [World.setCell]; omega) hg9.size; clear hown9 hg9)
          go_roundw
          case rel => exact ⟨k + 1, by omega, by go_num, HX.out.1, HX.out.2, hs9⟩
          case measure => simp [intOf]; omega
        · have hbt : decide ((Wr.num (Wr.num (lmany k s1 tp).2 tp).2 1).1 = 1) = false := by simp [hb]
          have HE : Hid (lcells (lone (lmany k s1 tp).2 tp).1 = [.int .i64 0, .int .i64 ((Wr.num (lmany k s1 tp).2 tp).1 : Int), .slice none 0 0, .int .i64 0]) := by unfold lone lcells; rw [if_neg hb]; exact rfl
          clear hb
          go_wp2_with (at_builtin; refine wpList_append_own _ rfl (.tmp 53) (.tmp 55) 22 rfl w5.heap.size 32 i0 (.agg #[.int .i64 0, .int .i64 0, .slice none 0 0, .int .i64 0]) 4 48 Try.underlying22 hi hz0 hz1 hz2 rfl (by decide) _ _ _ rfl (HO7.out.alloc _) ⟨w7.heap.size, 0, none⟩ 1 1 [.int .i64 0, .int .i64 ((Wr.num (lmany k s1 tp).2 tp).1 : Int), .slice none 0 0, .int .i64 0] rfl rfl (cells_new rfl #[.int .i64 0, .int .i64 ((Wr.num (lmany k s1 tp).2 tp).1 : Int), .slice none 0 0, .int .i64 0] 32) (by simp [Value.oneCell']) (by simp only [maxLen]; omega) (by omega) (by simp; omega) ?_; intro v9 w9 hown9 hg9 _; rw [← HE.out] at hown9; have HX := Lib.hid (ll_next HL7.out HO7.out hown9 hg9 hgr5 hgs5 hgt5 HV4.out (by omega)); have hs9 : w5.heap.size ≤ w9.heap.size := Nat.le_trans (by simp; omega) hg9.size; clear hown9 hg9)
          go_roundw
          case rel => exact ⟨k + 1, by omega, by go_num, HX.out.1, HX.out.2, hs9⟩
          case measure => simp [intOf]; omega
      · obtain rfl : k = n := by omega
        have HSt : Hid (L.2 = (lmany k s1 tp).2) := by
          unfold Hid
          by_cases h0 : (lmany k s1 tp).2.e = 0
          · rw [HDone.out h0]
          · rw [HWrong.out h0]
        have HL9 : Hid (LL w gr gs w.heap.size (lmany k s1 tp).2 (lmany k s1 tp).2 tp (.slice A4 L.1.length c4) L.1 wr) := by
          have h := HLk.out
          rw [HSt.out] at h
          exact h
        have HOk2 := Lib.hid (lmany_len k s1 tp)
        obtain ⟨Aw, cw, hvw, _⟩ := own_form HOk.out
        subst hvw
        have HOks := HL9.out.s.ok
        generalize hst : (lmany k s1 tp).2 = st at *
        clear hst HLk HSt HB1 HB2 HB3
        go_wp2_with fail
        refine (end_any gs gs st _ HL9.out.s).mono ?_
        rintro e w' ⟨rfl, rfl⟩
        go_wp2_with fail
        refine (end_any gr gr st _ HL9.out.r).mono ?_
        rintro e w' ⟨rfl, rfl⟩
        go_wp2_with fail
        refine (left_any gr gr st _ HL9.out.r).mono ?_
        rintro e w' ⟨rfl, rfl⟩
        go_wp2_with fail
        refine (left_any gs gs st _ HL9.out.s).mono ?_
        rintro e w' ⟨rfl, rfl⟩
        have HBw := Lib.hid HL9.out.b
        have HS9 := Lib.hid HL9.out.s
        by_cases he : st.e = 0
        · have HEq := Lib.hid (HDone.out he)
          have HRow4 : Hid (wr.ownsRow w.heap.size 32 4 (.slice A4 k c4) k (lrow (lmany k s1 tp).1)) := by
            have h := HL9.out.row
            rw [HEq.out, HOk2.out] at h
            exact h
          have hLk : L.1.length = k := by rw [HEq.out]; exact HOk2.out
          have HRoww := HOk
          have HXk := HOk2
          generalize (lmany k s1 tp).1 = xs at HRow4 HRoww HXk
          rw [hLk]
          clear hLk HOk2 HOk HEq HL9 HDone HWrong HV4
          by_cases hl : 0 < st.l.length
          · have hf1 : (Wr.fin st != 0) = true := by unfold Wr.fin; rw [if_pos hl]; rfl
            have hf2 : ((st.l.length : Int) == 0) = false := by rw [beq_eq_false_iff_ne]; omega
            clear hl he
            go_wp2_with fail
            refine (left_any gs gs st _ HS9.out).mono ?_
            rintro e w' ⟨rfl, rfl⟩
            go_wp2_with fail
            go_loopw [87] (fun j W => ∃ i q : Nat, i ≤ k ∧ j = .int .i64 i ∧ W = wr.drewN q) (fun j _ => k - (intOf j).toNat)
            case atStart => exact ⟨0, 0, Nat.zero_le _, rfl, rfl⟩
            case round =>
              obtain ⟨i, q, hik, rfl, rfl⟩ := hrel
              by_cases hlt2 : i < k
              · obtain ⟨g4, d4, e4, _, _⟩ := HRow4.out.form (by omega)
                obtain ⟨gw, dw, ew, _, _⟩ := HRoww.out.form (by omega)
                injection e4 with e4 _ ec4
                injection ew with ew _ ecw
                subst e4
                subst ew
                subst ec4
                subst ecw
                obtain ⟨p0, p1⟩ := lrow_cell HRow4.out HXk.out.symm (i := i) (by have := HXk.out; omega)
                obtain ⟨r0, r1⟩ := lrow_cell HRoww.out HXk.out.symm (i := i) (by have := HXk.out; omega)
                generalize xs[i]'(by have := HXk.out; omega) = pr at p0 p1 r0 r1
                have hi0 : (0 : Int) ≤ (i : Int) := by omega
                have hi1 : (i : Int) < (k : Int) := by omega
                go_wp2_with fail
                go_quiet (fail)
                go_wp2_with fail
                go_roundw
                case rel => exact ⟨i + 1, _, by omega, by go_num, rfl⟩
                case measure => simp [intOf]; omega
              · go_wp2_with fail
                go_ret
                exact ⟨rfl, HBw.out.drewN q⟩
          · have hf1 : (Wr.fin st != 0) = false := by unfold Wr.fin; rw [if_neg hl, he]; rfl
            clear hl he
            go_wp2_with fail
            go_loopw [87] (fun j W => ∃ i q : Nat, i ≤ k ∧ j = .int .i64 i ∧ W = wr.drewN q) (fun j _ => k - (intOf j).toNat)
            case atStart => exact ⟨0, 0, Nat.zero_le _, rfl, rfl⟩
            case round =>
              obtain ⟨i, q, hik, rfl, rfl⟩ := hrel
              by_cases hlt2 : i < k
              · obtain ⟨g4, d4, e4, _, _⟩ := HRow4.out.form (by omega)
                obtain ⟨gw, dw, ew, _, _⟩ := HRoww.out.form (by omega)
                injection e4 with e4 _ ec4
                injection ew with ew _ ecw
                subst e4
                subst ew
                subst ec4
                subst ecw
                obtain ⟨p0, p1⟩ := lrow_cell HRow4.out HXk.out.symm (i := i) (by have := HXk.out; omega)
                obtain ⟨r0, r1⟩ := lrow_cell HRoww.out HXk.out.symm (i := i) (by have := HXk.out; omega)
                generalize xs[i]'(by have := HXk.out; omega) = pr at p0 p1 r0 r1
                have hi0 : (0 : Int) ≤ (i : Int) := by omega
                have hi1 : (i : Int) < (k : Int) := by omega
                go_wp2_with fail
                go_quiet (fail)
                go_wp2_with fail
                go_roundw
                case rel => exact ⟨i + 1, _, by omega, by go_num, rfl⟩
                case measure => simp [intOf]; omega
              · go_wp2_with fail
                go_ret
                exact ⟨rfl, HBw.out.drewN q⟩
        · have hl0 : st.l = [] := HOks.2 he
          have HEq := Lib.hid (HWrong.out he)
          have hf1 : (Wr.fin st != 0) = true := by unfold Wr.fin; rw [hl0]; simpa using he
          have hf2 : ((st.l.length : Int) == 0) = true := by rw [hl0]; rfl
          have hLk : L.1.length = 0 := by rw [HEq.out]; rfl
          rw [hLk]
          clear he hl0 hLk HEq HL9 HDone HWrong HOks HOk2 HV4
          go_wp2_with fail
          refine (left_any gs gs st _ HS9.out).mono ?_
          rintro e w' ⟨rfl, rfl⟩
          go_wp2_with fail
          go_ret
          exact ⟨rfl, HBw.out⟩
end Go.Proofs.Ythhlgjedgbdgcaa
