/- WireReads: what is read of any bytes, thing by thing, what is left, and what goes wrong first, are as the document says. -/
import Derived.Test.YthhlgjedgbdgcaaWWrites
namespace Go.Proofs.Ythhlgjedgbdgcaa
open Go.RowKit

/-- Both readers hold the same; they lie apart, and above what was there. -/
def RR (w : World) (gr gs : Nat) (s : Wr.St) (wr : World) : Prop :=
  Rdr wr gr gr s ∧ RRd wr w.heap.size gs s ∧ w.heap.size ≤ gr ∧ w.heap.size ≤ gs ∧ Bl w wr

section
variable {w wr w1 w2 : World} {gr gs : Nat} {s s' : Wr.St}
theorem RR.bl (h : RR w gr gs s wr) (hb : Bl wr w1) : RR w gr gs s w1 := ⟨h.1.bl hb, h.2.1.bl hb, h.2.2.1, h.2.2.2.1, h.2.2.2.2.trans hb⟩
theorem RR.alloc (h : RR w gr gs s wr) (o : Obj) : RR w gr gs s (wr.alloc o) := h.bl ((Bl.refl wr).alloc o)
theorem RR.drewN (h : RR w gr gs s wr) (n : Nat) : RR w gr gs s (wr.drewN n) := h.bl ((Bl.refl wr).drewN n)
theorem RR.rd (h : RR w gr gs s wr) : Rdr wr gr gr s := h.1
theorem RR.rs (h : RR w gr gs s wr) : RRd wr w.heap.size gs s := h.2.1
theorem RR.b (h : RR w gr gs s wr) : Bl w wr := h.2.2.2.2
theorem RR.ne (h : RR w gr gs s wr) : gs ≠ gr := h.2.1.apart h.1
/-- Behind a call of the reader's. -/
theorem RR.one (h : RR w gr gs s wr) (hf : Fr (fun k => k = gr) wr w1) : RRd w1 w.heap.size gs s := h.2.1.fr hf h.ne h.1.noByte
/-- Behind a call of each. -/
theorem RR.two (h : RR w gr gs s wr) (hr : Rdr w1 gr gr s') (hf : Fr (fun k => k = gr) wr w1) (hs : RRd w2 w.heap.size gs s') (hf2 : Fr (fun k => k = gs) w1 w2) : RR w gr gs s' w2 :=
  ⟨hr.fr hf2 (fun e => h.ne e.symm) (h.one hf).noByte, hs, h.2.2.1, h.2.2.2.1, (h.2.2.2.2.fr hf fun i hi e => by have := h.2.2.1; omega).fr hf2 fun i hi e => by have := h.2.2.2.1; omega⟩
end

set_option maxRecDepth 100000 in
set_option maxHeartbeats 4000000 in
theorem wireReads_any (Ab : Option Addr) (lb cb : Nat) (l : List Nat) (A : Option Addr) (len cap : Nat) (ts : List Tg) (w : World) (hlb : lb = l.length) (hcb : lb ≤ cb) (hcm : cb ≤ 9223372036854775807) (hrb : Rd w w.heap.size Ab (bys l)) (hby : ∀ c ∈ l, c < 256)
    (hlen : len = ts.length) (hmax : len ≤ 9223372036854775807) (hr : Tgs w w.heap.size A ts)
    (h63 : ∀ x ∈ ts, x.n < 9223372036854775808 ∧ ∀ n ∈ x.l, n < 9223372036854775808) :
    Calls Try.prog 4 #[.slice Ab lb cb, .slice A len cap] w fun e w' => e = .returned (.bool true) ∧ Bl w w' := by
  have HL := Lib.hid hlen; clear hlen
  have HLB := Lib.hid hlb; clear hlb
  have HA := Lib.hid hr; clear hr
  have HRB := Lib.hid hrb; clear hrb
  have HBY := Lib.hid hby; clear hby
  have H63 := Lib.hid h63; clear h63
  by_cases h500 : 500 < lb
  · go_enter Try.func4, Try.ntmps4
    go_wp2_with fail
    refine (awake_any _).mono ?_
    rintro e w1 ⟨rfl, hb1⟩
    have HB1 := Lib.hid hb1; clear hb1
    go_wp2_with fail
    go_ret
    exact ⟨rfl, HB1.out⟩
  · cases hlg : lg ts with
    | true =>
      have HG := Lib.hid hlg; clear hlg
      go_enter Try.func4, Try.ntmps4
      go_wp2_with fail
      refine (awake_any _).mono ?_
      rintro e w1 ⟨rfl, hb1⟩
      have HB1 := Lib.hid hb1; clear hb1
      go_wp2_with fail
      refine (large_any A len cap ts _ w.heap.size HL.out hmax (HA.out.below HB1.out) HB1.out.size).mono ?_
      rintro e w2 ⟨rfl, hb2⟩
      have HB2 := Lib.hid (HB1.out.trans hb2); clear hb2
      rw [HG.out]
      go_wp2_with fail
      go_ret
      exact ⟨rfl, HB2.out⟩
    | false =>
      have HG := Lib.hid hlg
      obtain ⟨h40, hfine⟩ := lg_false hlg
      have HLook : Hid (∀ x ∈ ts, Look x) := fun x hx => ⟨hfine x hx, H63.out x hx⟩
      have hl40 : len ≤ 40 := by have := HL.out; omega
      clear hlg h40 hfine
      go_enter Try.func4, Try.ntmps4
      go_wp2_with fail
      refine (awake_any _).mono ?_
      rintro e w1 ⟨rfl, hb1⟩
      have HB1 := Lib.hid hb1; clear hb1
      go_wp2_with fail
      refine (large_any A len cap ts _ w.heap.size HL.out hmax (HA.out.below HB1.out) HB1.out.size).mono ?_
      rintro e w2 ⟨rfl, hb2⟩
      have HB2 := Lib.hid (HB1.out.trans hb2); clear hb2
      rw [HG.out]
      go_wp2_with fail
      refine (new_any Ab lb cb l _ w.heap.size HLB.out (by omega) (HRB.out.below HB2.out) HBY.out).mono ?_
      rintro e w3 ⟨gr, rfl, hgr, hr3, hb3⟩
      have hs2 : w.heap.size ≤ w2.heap.size := HB2.out.size
      have hs3 : w2.heap.size ≤ w3.heap.size := (Bl.own hb3).size
      have H0 : Hid (RR w gr w3.heap.size ⟨l, 0⟩ (w3.alloc (.cells #[.slice Ab lb cb, .int .i64 0] 43))) := by
        refine ⟨hr3.alloc _, ⟨Ab, cb, l, ?_, ?_, ?_, hcm, HBY.out, fun _ => rfl, ⟨HBY.out, fun h => absurd rfl h⟩, by simp; omega⟩, by omega, by omega, (HB2.out.trans hb3).alloc _⟩
        · rw [← HLB.out]; exact Bk.new w3 _ _
        · exact (HRB.out.below ((HB2.out.trans hb3).alloc _))
        · rw [← HLB.out]; exact hcb
      clear hr3 hb3
      go_wp2_with fail
      obtain ⟨gs, hgs⟩ : ∃ gs : Nat, gs = w3.heap.size := ⟨_, rfl⟩
      rw [← hgs] at H0 ⊢
      clear hgs
      go_loopw [26] (fun i wr => ∃ (k : Nat) (st : Wr.St), k ≤ len ∧ i = .int .i64 k ∧ Hid (RR w gr gs st wr)) (fun i _ => len - (intOf i).toNat)
      case atStart => exact ⟨0, _, Nat.zero_le _, rfl, H0⟩
      case round =>
        obtain ⟨k, st, hk, rfl, HK⟩ := hrel
        by_cases hlt : k < len
        · have hj : k < ts.length := by have := HL.out; omega
          have hwr : w.heap.size ≤ wr.heap.size := HK.out.b.size
          obtain ⟨b, off, Ax, c, rfl, hbB, hrx, hc0, hc1, hc2, hc3⟩ := (HA.out.below HK.out.b).at_ hj
          have HLk := Lib.hid (HLook.out _ (List.getElem_mem hj))
          generalize hx : ts[k] = x at *
          obtain ⟨xk, xn, xl, xe⟩ := x
          simp only at hc0 hc1 hc2 hc3
          obtain ⟨n, rfl⟩ : ∃ n : Nat, xn = (n : Int) := ⟨xn.toNat, by have h : 0 ≤ xn := HLk.out.1.1; omega⟩
          have hn63 : n < 9223372036854775808 := by have h : (n : Int) < 9223372036854775808 := HLk.out.2.1; omega
          have hx40 : xl.length ≤ 40 := HLk.out.1.2.1
          clear hrx hj hx
          have HA1 := Lib.hid (HK.out.alloc (.cells #[.int .i64 xk, .int .i64 n, .slice Ax xl.length c, .int .i64 xe] 32))
          have HBk := Lib.hid (Bk.new wr 32 #[.int .i64 xk, .int .i64 n, .slice Ax xl.length c, .int .i64 xe])
          have hgr1 : gr < wr.heap.size := HK.out.rd.lt
          have hgs1 : gs < wr.heap.size := HK.out.rs.lt
          have hkinds : xk = 1 ∨ xk = 2 ∨ xk = 3 ∨ xk = 4 ∨ (xk ≠ 1 ∧ xk ≠ 2 ∧ xk ≠ 3 ∧ xk ≠ 4) := by omega
          rcases hkinds with h1 | h1 | h1 | h1 | ⟨h1, h2, h3, h4⟩
          · subst h1
            go_wp2_with fail
            go_region_held3 (fun w' => w'.cell? ⟨wr.heap.size, 1, none⟩ = some (.int .i64 n)) (first | exact HBk.out.cell 1 | exact hc8 | exact hc9) (first
              | (go_at_call 15; ((with_reducible refine (num_any gr gr st n _ HA1.out.rd.drew hn63).mono ?_); rintro e w4 ⟨rfl, hr4, hf4⟩; have HR4 := Lib.hid hr4; have HF4 := Lib.hid hf4.undrew; have HS4 := Lib.hid (HA1.out.one hf4.undrew); have HB4 := Lib.hid (HBk.out.fr hf4.undrew (by omega)); have hc8 : w4.cell? ⟨wr.heap.size, 1, none⟩ = some (.int .i64 n) := HB4.out.cell 1; have hs4 : wr.heap.size < w4.heap.size := Nat.lt_of_lt_of_le (by simp) hf4.undrew.size; clear hr4 hf4))
              | (go_at_call 16; ((with_reducible refine (rnum_any w.heap.size gs st n _ HS4.out hn63).mono ?_); rintro e w5 ⟨rfl, hr5, hf5⟩; have H5 := Lib.hid (HA1.out.two HR4.out HF4.out hr5 hf5); have hc9 : w5.cell? ⟨wr.heap.size, 1, none⟩ = some (.int .i64 n) := (HB4.out.fr hf5 (by omega)).cell 1; clear hr5 hf5)))
            go_wp2_with fail
            refine (left_any gr gr (Wr.num st n).2 _ H5.out.rd).mono ?_
            rintro e w' ⟨rfl, rfl⟩
            go_wp2_with fail
            refine (rleft_any w.heap.size gs (Wr.num st n).2 _ H5.out.rs).mono ?_
            rintro e w' ⟨rfl, rfl⟩
            go_wp2_with fail
            refine (end_any gr gr (Wr.num st n).2 _ H5.out.rd).mono ?_
            rintro e w' ⟨rfl, rfl⟩
            go_wp2_with fail
            refine (rend_any w.heap.size gs (Wr.num st n).2 _ H5.out.rs).mono ?_
            rintro e w' ⟨rfl, rfl⟩
            go_wp2_with fail
            go_roundw
            case rel => exact ⟨k + 1, (Wr.num st n).2, by omega, by go_num, H5⟩
            case measure => simp [intOf]; omega
          · subst h1
            go_wp2_with fail
            refine (bool_any gr gr st _ HA1.out.rd).mono ?_
            rintro e w4 ⟨rfl, hr4, hf4⟩
            have HR4 := Lib.hid hr4
            have HF4 := Lib.hid hf4
            have HS4 := Lib.hid (HA1.out.one hf4)
            clear hr4 hf4
            go_wp2_with fail
            refine (rnum_any w.heap.size gs st 1 _ HS4.out (by decide)).mono ?_
            rintro e w5 ⟨rfl, hr5, hf5⟩
            have H5 := Lib.hid (HA1.out.two HR4.out HF4.out hr5 hf5)
            clear hr5 hf5
            have hq := int_one (Wr.num st 1).1
            go_wp2_with fail
            refine (left_any gr gr (Wr.num st 1).2 _ H5.out.rd).mono ?_
            rintro e w' ⟨rfl, rfl⟩
            go_wp2_with fail
            refine (rleft_any w.heap.size gs (Wr.num st 1).2 _ H5.out.rs).mono ?_
            rintro e w' ⟨rfl, rfl⟩
            go_wp2_with fail
            refine (end_any gr gr (Wr.num st 1).2 _ H5.out.rd).mono ?_
            rintro e w' ⟨rfl, rfl⟩
            go_wp2_with fail
            refine (rend_any w.heap.size gs (Wr.num st 1).2 _ H5.out.rs).mono ?_
            rintro e w' ⟨rfl, rfl⟩
            go_wp2_with fail
            go_roundw
            case rel => exact ⟨k + 1, (Wr.num st 1).2, by omega, by go_num, H5⟩
            case measure => simp [intOf]; omega
          · subst h1
            have hnl := Wr.nums_len st xl.length n
            go_wp2_with fail
            go_region_held3 (fun w' => w'.cell? ⟨wr.heap.size, 1, none⟩ = some (.int .i64 n) ∧ w'.cell? ⟨wr.heap.size, 2, none⟩ = some (.slice Ax xl.length c)) (first | exact ⟨HBk.out.cell 1, HBk.out.cell 2⟩ | exact ⟨HB4.out.cell 1, HB4.out.cell 2⟩ | exact ⟨HB5.out.cell 1, HB5.out.cell 2⟩) (first
              | (go_at_call 19; ((with_reducible refine (nums_any gr gr st xl.length n _ HA1.out.rd.drew (by omega) hn63).mono ?_); rintro e w4 ⟨v4, rfl, ho4, hr4, hf4⟩; obtain ⟨A4, c4, hv4, _⟩ := own_slice ho4; subst hv4; have HO4 := Lib.hid ho4; have HR4 := Lib.hid hr4; have HF4 := Lib.hid hf4.undrew; have HS4 := Lib.hid (HA1.out.one hf4.undrew); have HB4 := Lib.hid (HBk.out.fr hf4.undrew (by omega)); clear hr4 hf4 ho4))
              | (go_at_call 20; ((with_reducible refine (rnums_any w.heap.size gs st xl.length n _ HS4.out (by omega) hn63).mono ?_); rintro e w5 ⟨v5, rfl, ho5, hr5, hf5⟩; obtain ⟨A5, c5, hv5, _⟩ := own_slice ho5; subst hv5; have HO5 := Lib.hid ho5; have HP5 := Lib.hid (own_fr HO4.out hf5 fun j hj e => HS4.out.row HO4.out (by decide) (by rw [hj, e])); have H5a := Lib.hid (HA1.out.two HR4.out HF4.out hr5 hf5); have HB5 := Lib.hid (HB4.out.fr hf5 (by omega)); clear hr5 hf5 ho5))
              | (go_at_call 18; ((with_reducible refine (isame_any A4 A5 _ _ c4 c5 (ns (Wr.nums st xl.length n).1) (ns (Wr.nums st xl.length n).1) _ w5.heap.size (by rw [ns_len]) (by rw [ns_len]) (by omega) (Rd.own HP5.out) (Rd.own HO5.out)).mono ?_); rintro e w6 ⟨rfl, q, rfl⟩; rw [decide_eq_true rfl])))
            have H5 := Lib.hid (H5a.out.drewN q)
            go_wp2_with fail
            refine (left_any gr gr (Wr.nums st xl.length n).2 _ H5.out.rd).mono ?_
            rintro e w' ⟨rfl, rfl⟩
            go_wp2_with fail
            refine (rleft_any w.heap.size gs (Wr.nums st xl.length n).2 _ H5.out.rs).mono ?_
            rintro e w' ⟨rfl, rfl⟩
            go_wp2_with fail
            refine (end_any gr gr (Wr.nums st xl.length n).2 _ H5.out.rd).mono ?_
            rintro e w' ⟨rfl, rfl⟩
            go_wp2_with fail
            refine (rend_any w.heap.size gs (Wr.nums st xl.length n).2 _ H5.out.rs).mono ?_
            rintro e w' ⟨rfl, rfl⟩
            go_wp2_with fail
            go_roundw
            case rel => exact ⟨k + 1, (Wr.nums st xl.length n).2, by omega, by go_num, H5⟩
            case measure => simp [intOf]; omega
          · subst h1
            go_wp2_with fail
            refine (wrong_any gr gr st xe _ HA1.out.rd).mono ?_
            rintro e w4 ⟨rfl, hr4, hf4⟩
            have HR4 := Lib.hid hr4
            have HF4 := Lib.hid hf4
            have HS4 := Lib.hid (HA1.out.one hf4)
            have hc9 : w4.cell? ⟨wr.heap.size, 3, none⟩ = some (.int .i64 xe) := (HBk.out.fr hf4 (by omega)).cell 3
            clear hr4 hf4
            go_wp2_with fail
            refine (rwrong_any w.heap.size gs st xe _ HS4.out).mono ?_
            rintro e w5 ⟨rfl, hr5, hf5⟩
            have H5 := Lib.hid (HA1.out.two HR4.out HF4.out hr5 hf5)
            clear hr5 hf5
            go_wp2_with fail
            refine (left_any gr gr (Wr.bad st xe) _ H5.out.rd).mono ?_
            rintro e w' ⟨rfl, rfl⟩
            go_wp2_with fail
            refine (rleft_any w.heap.size gs (Wr.bad st xe) _ H5.out.rs).mono ?_
            rintro e w' ⟨rfl, rfl⟩
            go_wp2_with fail
            refine (end_any gr gr (Wr.bad st xe) _ H5.out.rd).mono ?_
            rintro e w' ⟨rfl, rfl⟩
            go_wp2_with fail
            refine (rend_any w.heap.size gs (Wr.bad st xe) _ H5.out.rs).mono ?_
            rintro e w' ⟨rfl, rfl⟩
            go_wp2_with fail
            go_roundw
            case rel => exact ⟨k + 1, (Wr.bad st xe), by omega, by go_num, H5⟩
            case measure => simp [intOf]; omega
          · have hq1 : (xk == 1) = false := by simpa using h1
            have hq2 : (xk == 2) = false := by simpa using h2
            have hq3 : (xk == 3) = false := by simpa using h3
            have hq4 : (xk == 4) = false := by simpa using h4
            have H5 := HA1
            clear h1 h2 h3 h4
            go_wp2_with fail
            refine (left_any gr gr st _ H5.out.rd).mono ?_
            rintro e w' ⟨rfl, rfl⟩
            go_wp2_with fail
            refine (rleft_any w.heap.size gs st _ H5.out.rs).mono ?_
            rintro e w' ⟨rfl, rfl⟩
            go_wp2_with fail
            refine (end_any gr gr st _ H5.out.rd).mono ?_
            rintro e w' ⟨rfl, rfl⟩
            go_wp2_with fail
            refine (rend_any w.heap.size gs st _ H5.out.rs).mono ?_
            rintro e w' ⟨rfl, rfl⟩
            go_wp2_with fail
            go_roundw
            case rel => exact ⟨k + 1, st, by omega, by go_num, H5⟩
            case measure => simp [intOf]; omega
        · go_wp2_with fail
          go_ret
          exact ⟨rfl, HK.out.b⟩
end Go.Proofs.Ythhlgjedgbdgcaa
