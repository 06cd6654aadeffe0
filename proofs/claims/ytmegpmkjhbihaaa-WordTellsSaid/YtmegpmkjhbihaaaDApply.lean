/- word.Apply: what becomes of a word. -/
import Derived.Test.YtmegpmkjhbihaaaDOut
import Derived.Test.YtmegpmkjhbihaaaDIO
namespace Go.Proofs.Ytmegpmkjhbihaaa
open Go.RowKit

/-- What a call leaves: a row of ints of its own. -/
def IOwn (xs : List Int) (w : World) (e : Ending) (w' : World) : Prop :=
  ∃ A c, e = .returned (.slice A xs.length c) ∧ xs.length ≤ c ∧ w'.ownsRow w.heap.size 3 1 (.slice A xs.length c) xs.length (ins xs) ∧ Bl w w'
theorem run_put {xs : List Int} {p na : Nat} {t : Int} {l : List Wd.Ed} (h : p ≤ na) : Wd.run p (xs.drop p) (⟨na, false, t⟩ :: l) = ((xs.drop p).take (na - p) ++ [t]) ++ Wd.run na (xs.drop na) l := by
  have e : ((na : Int) - (p : Int)).toNat = na - p := by omega
  rw [Wd.run]
  simp only [e, Bool.false_eq_true, if_false, List.drop_drop]
  rw [show p + (na - p) = na by omega]
  simp
theorem run_drop {xs : List Int} {p na : Nat} {t : Int} {l : List Wd.Ed} (h : p ≤ na) : Wd.run p (xs.drop p) (⟨na, true, t⟩ :: l) = (xs.drop p).take (na - p) ++ Wd.run ((na + 1 : Nat) : Int) (xs.drop (na + 1)) l := by
  have e : ((na : Int) - (p : Int)).toNat = na - p := by omega
  rw [Wd.run]
  simp only [e, if_true, List.drop_drop]
  rw [show p + (na - p + 1) = na + 1 by omega]
  rfl
/-- Where the edits stand: k are gone through, the word up to place p. -/
structure At (xs : List Int) (es : List Wd.Ed) (k p : Nat) (out : List Int) : Prop where
  same : Wd.becomes xs es = out ++ Wd.run p (xs.drop p) (es.drop k)
  may : Wd.may xs.length (es.drop k) = true
  ahead : ∀ f ∈ es.drop k, (p : Int) ≤ f.at_
  le : p ≤ xs.length
  size : out.length ≤ p + k
section
variable {xs : List Int} {es : List Wd.Ed} {k p : Nat} {out : List Int}
theorem At.start (h : Wd.may xs.length es = true) : At xs es 0 0 [] :=
  ⟨rfl, h, fun f hf => by
    have hf : f ∈ es := hf
    obtain ⟨i, hi, rfl⟩ := List.getElem_of_mem hf
    exact ((Wd.oneE_iff _ _).1 (((Wd.may_iff _ _).1 h).1 i hi)).1, Nat.zero_le _, Nat.zero_le _⟩
theorem At.cons (h : At xs es k p out) (hk : k < es.length) : Wd.oneE xs.length es[k] = true ∧ (p : Int) ≤ es[k].at_ ∧ es.drop k = es[k] :: es.drop (k + 1) ∧ Wd.may xs.length (es.drop (k + 1)) = true ∧ ∀ f ∈ es.drop (k + 1), es[k].at_ ≤ f.at_ ∧ (es[k].drop = true → es[k].at_ < f.at_) := by
  have e := List.drop_eq_getElem_cons hk
  have h1 := h.may
  have h2 := h.ahead
  rw [e] at h1 h2
  obtain ⟨g1, _, g3⟩ := Wd.may_cons h1
  exact ⟨g1, h2 _ List.mem_cons_self, e, g3, Wd.may_behind _ h1⟩
theorem At.put {na : Nat} {t : Int} (h : At xs es k p out) (hk : k < es.length) (e : es[k] = ⟨na, false, t⟩) : At xs es (k + 1) na ((out ++ (xs.drop p).take (na - p)) ++ [t]) := by
  obtain ⟨g1, g2, g3, g4, g5⟩ := h.cons hk
  rw [e] at g1 g2 g3 g5
  obtain ⟨o1, o2, _⟩ := (Wd.oneE_iff _ _).1 g1
  simp only at g2 o1 o2
  have hs := h.same
  rw [g3, run_put (by omega)] at hs
  refine ⟨by rw [hs]; simp, g4, fun f hf => (g5 f hf).1, by omega, ?_⟩
  have := h.size
  rw [List.length_append, List.length_append, List.length_take, List.length_drop]
  simp only [List.length_cons, List.length_nil]
  omega
theorem At.drop {na : Nat} {t : Int} (h : At xs es k p out) (hk : k < es.length) (e : es[k] = ⟨na, true, t⟩) : At xs es (k + 1) (na + 1) (out ++ (xs.drop p).take (na - p)) := by
  obtain ⟨g1, g2, g3, g4, g5⟩ := h.cons hk
  rw [e] at g1 g2 g3 g5
  obtain ⟨o1, o2, _, _, o5⟩ := (Wd.oneE_iff _ _).1 g1
  have o6 := (o5 rfl).1
  simp only at g2 o1 o2 o6
  have hs := h.same
  rw [g3, run_drop (by omega)] at hs
  refine ⟨by rw [hs]; simp, g4, fun f hf => ?_, by omega, ?_⟩
  · have := (g5 f hf).2 rfl
    simp only at this
    omega
  · have := h.size
    rw [List.length_append, List.length_take, List.length_drop]
    omega
theorem At.done (h : At xs es k p out) (hk : k = es.length) : Wd.becomes xs es = out ++ xs.drop p := by
  have hs := h.same
  rw [show es.drop k = [] from List.drop_of_length_le (by omega)] at hs
  exact hs
theorem Rd.ints_cut {w : World} {B : Nat} {A : Option Addr} {xs : List Int} (h : Rd w B A (ins xs)) {p cap : Nat} (hc : xs.length ≤ cap) : Rd w B (if cap = p then A else A.map (·.add p)) (ins (xs.drop p)) := by
  have := h.cut (k := p) (cap := cap) (by rw [ins_len]; exact hc)
  simpa [ins] using this
theorem Rd.ints_part {w : World} {B : Nat} {A : Option Addr} {xs : List Int} (h : Rd w B A (ins xs)) {p m cap : Nat} (hc : xs.length ≤ cap) : Rd w B (if cap = p then A else A.map (·.add p)) (ins ((xs.drop p).take m)) := by
  have := (h.ints_cut (p := p) hc).take m
  simpa [ins] using this
end

set_option maxRecDepth 100000 in
set_option maxHeartbeats 1000000 in
theorem edited_any (A : Option Addr) (len cap : Nat) (xs : List Int) (Al : Option Addr) (ll cl : Nat) (es : List Wd.Ed) (w : World) (B : Nat) (hlen : len = xs.length) (hcap : len ≤ cap) (_hmax : cap ≤ 9223372036854775807) (h24 : len ≤ 24) (hr : Rd w B A (ins xs)) (hll : ll = es.length) (hlm : ll ≤ 1000000000) (hrl : Rd w B Al (edRow es)) (hB : B ≤ w.heap.size)
    (hm : Wd.may xs.length es = true) :
    Calls Try.prog 29 #[.slice A len cap, .slice Al ll cl] w (IOwn (Wd.becomes xs es) w) := by
  have HL := Lib.hid hlen; clear hlen
  have HA := Lib.hid hr; clear hr
  have HLL := Lib.hid hll; clear hll
  have HAL := Lib.hid hrl; clear hrl
  have H0 := Lib.hid (At.start hm); clear hm
  have HO0 := Lib.hid (Out.new w)
  have hmf : ∀ (fn : Fn) (first cap : Array Value) (w : World), (Instr.makeFunc fn first cap).run Try.prog w = .ok (.func fn first cap) w := fun _ _ _ _ => rfl
  go_enter Try.func29, Try.ntmps29
  go_wp2_with fail
  go_loopw [7, 13] (fun v i wr => ∃ (k p : Nat) (out : List Int), k ≤ ll ∧ v = .int .i64 p ∧ i = .int .i64 k ∧ Hid (At xs es k p out) ∧ Hid (Out w w.heap.size out wr)) (fun _ i _ => ll - (intOf i).toNat)
  case atStart => exact ⟨0, 0, [], Nat.zero_le _, rfl, rfl, H0, HO0⟩
  case round =>
    obtain ⟨k, p, out, hk, rfl, rfl, HAt, HO⟩ := hrel
    have hpl : p ≤ len := by have := HAt.out.le; have := HL.out; omega
    have hos : out.length ≤ p + k := HAt.out.size
    by_cases hlt : k < ll
    · have hj : k < es.length := by have := HLL.out; omega
      have hbr : Bl w wr := HO.out.b
      obtain ⟨b, off, rfl, hbB, hc0, hc1, hc2⟩ := (HAL.out.bl hB hbr).edit hj
      obtain ⟨g1, g2, _⟩ := HAt.out.cons hj
      obtain ⟨o1, o2, _, _, o5⟩ := (Wd.oneE_iff _ _).1 g1
      have HPut := Lib.hid (fun (na : Nat) (t : Int) h => HAt.out.put (na := na) (t := t) hj h)
      have HDrop := Lib.hid (fun (na : Nat) (t : Int) h => HAt.out.drop (na := na) (t := t) hj h)
      have HAr := Lib.hid (HA.out.bl hB hbr)
      generalize es[k] = x at *
      obtain ⟨xa, xd, xt⟩ := x
      simp only at hc0 hc1 hc2 g2 o1 o2 o5
      clear hj hbr g1
      obtain ⟨na, rfl⟩ : ∃ na : Nat, xa = (na : Int) := ⟨xa.toNat, by omega⟩
      have hpn : p ≤ na := by omega
      have hnl : na ≤ len := by have := HL.out; omega
      have HO1 := Lib.hid (HO.out.alloc (.cells #[.int .i64 na, .bool xd, .int .i64 xt] 43))
      have HK1 := Lib.hid (Bk.new wr 43 #[.int .i64 na, .bool xd, .int .i64 xt])
      have HA1 := Lib.hid (((HAr.out.more (Nat.le_trans hB HO.out.b.size)).alloc (Nat.le_refl _) (.cells #[.int .i64 na, .bool xd, .int .i64 xt] 43)).ints_part (p := p) (m := na - p) (cap := cap) (by have := HL.out; omega))
      have HAa : Hid (cap = p → Rd (wr.alloc (.cells #[.int .i64 na, .bool xd, .int .i64 xt] 43)) wr.heap.size A (ins ((xs.drop p).take (na - p)))) := fun h => by
        have := HA1.out
        rw [if_pos h] at this
        exact this
      have HAb : Hid (¬ cap = p → Rd (wr.alloc (.cells #[.int .i64 na, .bool xd, .int .i64 xt] 43)) wr.heap.size (A.map (·.add p)) (ins ((xs.drop p).take (na - p)))) := fun h => by
        have := HA1.out
        rw [if_neg h] at this
        exact this
      clear HA1
      have hnp : ((xs.drop p).take (na - p)).length = na - p := by rw [List.length_take, List.length_drop]; have := HL.out; omega
      have HNP := Lib.hid hnp; clear hnp
      cases xd with
      | true =>
        have HN := Lib.hid (HDrop.out na xt rfl)
        have o6 := (o5 rfl).1
        have hnl2 : na < len := by have := HL.out; omega
        clear o5 o6 g2 o1 o2
        go_wp2_with fail
        refine (dput_any w w.heap.size out ((xs.drop p).take (na - p)) _ (na - p) _ _ wr.heap.size HO1.out (Nat.le_refl _) HNP.out.symm (HAb.out (by omega)) (by omega)).mono ?_
        rintro e w1 ⟨rfl, ho1, hk1⟩
        have HO2 := Lib.hid ho1
        have HK2 := Lib.hid (hk1 _ _ _ (by decide) (by decide) HK1.out)
        have d0 : w1.cell? ⟨wr.heap.size, 0, none⟩ = some (.int .i64 (na : Int)) := HK2.out.cell 0
        have d1 : w1.cell? ⟨wr.heap.size, 1, none⟩ = some (.bool true) := HK2.out.cell 1
        clear ho1 hk1
        go_wp2_with fail
        go_roundw
        case rel => exact ⟨k + 1, na + 1, _, by omega, by go_num, by go_num, HN.out, HO2.out⟩
        case measure => simp [intOf]; omega
      | false =>
        have HN := Lib.hid (HPut.out na xt rfl)
        clear HPut HDrop
        generalize (xs.drop p).take (na - p) = mid at HN HAa HAb HNP
        clear o5 g2 o1 o2
        rcases Decidable.em (cap = p) with rfl | hcp
        all_goals
          go_wp2_with fail
          refine (dput_any w w.heap.size out mid _ _ _ _ wr.heap.size HO1.out (Nat.le_refl _) HNP.out.symm (by first | exact HAa.out (by first | trivial | omega) | exact HAb.out (by omega)) (by omega)).mono ?_
          rintro e w1 ⟨rfl, ho1, hk1⟩
          have HO2 := Lib.hid (ho1.alloc (.cells #[.int .i64 xt] 3))
          have HK2 := Lib.hid (hk1 _ _ _ (by decide) (by decide) HK1.out)
          have d0 : w1.cell? ⟨wr.heap.size, 0, none⟩ = some (.int .i64 (na : Int)) := HK2.out.cell 0
          have d1 : w1.cell? ⟨wr.heap.size, 1, none⟩ = some (.bool false) := HK2.out.cell 1
          have d2 : w1.cell? ⟨wr.heap.size, 2, none⟩ = some (.int .i64 xt) := HK2.out.cell 2
          have HT : Hid (Rd (w1.alloc (.cells #[.int .i64 xt] 3)) (w1.heap.size + 1) (some ⟨w1.heap.size, 0, none⟩) (ins [xt])) := fun _ => ⟨w1.heap.size, 0, rfl, Nat.lt_succ_self _, fun j u hu => by
            cases j with
            | succ j => simp [ins] at hu
            | zero =>
              have : Value.int .i64 xt = u := by simpa [ins] using hu
              subst this
              exact (cell_of_row _ _ 0 _ _ _ (heap_alloc_new w1 (.cells #[.int .i64 xt] 3))).trans rfl⟩
          have hol : (out ++ mid).length ≤ 2000000000 := by rw [List.length_append, HNP.out]; omega
          clear ho1 hk1
          go_wp2_with fail
          refine (dput_any w w.heap.size (out ++ mid) [xt] _ 1 _ _ (w1.heap.size + 1) HO2.out (Nat.le_refl _) rfl HT.out (by omega)).mono ?_
          rintro e w2 ⟨rfl, ho2, _⟩
          have HO3 := Lib.hid ho2
          clear ho2
          go_wp2_with fail
          go_roundw
          case rel => exact ⟨k + 1, na, _, by omega, by first | rfl | go_num, by go_num, HN.out, HO3.out⟩
          case measure => simp [intOf]; omega
    · have hke : k = es.length := by have := HLL.out; omega
      have HD := Lib.hid (HAt.out.done hke)
      have HA1 := Lib.hid ((HA.out.bl hB HO.out.b).ints_cut (p := p) (cap := cap) (by have := HL.out; omega))
      have HAa : Hid (cap = p → Rd wr B A (ins (xs.drop p))) := fun h => by
        have := HA1.out
        rw [if_pos h] at this
        exact this
      have HAb : Hid (¬ cap = p → Rd wr B (A.map (·.add p)) (ins (xs.drop p))) := fun h => by
        have := HA1.out
        rw [if_neg h] at this
        exact this
      clear HA1
      have hnp : (xs.drop p).length = len - p := by rw [List.length_drop]; have := HL.out; omega
      have HNP := Lib.hid hnp; clear hnp hke
      go_wp2_with fail
      all_goals
        refine (dput_any w w.heap.size out (xs.drop p) _ (len - p) _ _ B HO.out (Nat.le_refl _) HNP.out.symm (by first | exact HAa.out (by first | trivial | omega) | exact HAb.out (by omega)) (by omega)).mono ?_
        rintro e w1 ⟨rfl, ho1, _⟩
        rw [← HD.out] at ho1
        obtain ⟨A9, c9, hk9, hc9, ho9, hb9⟩ := ho1.done
        have d0 : w1.cell? ⟨w.heap.size, 0, none⟩ = some (.slice A9 (Wd.becomes xs es).length c9) := hk9.cell 0
        have HO9 := Lib.hid ho9
        have HB9 := Lib.hid hb9
        clear ho1 hk9 ho9 hb9
        go_wp2_with fail
        go_ret
        exact ⟨A9, c9, rfl, hc9, HO9.out, HB9.out⟩

/-- What Apply tells. -/
def applied (xs : List Int) (es : List Wd.Ed) : List Int × Int :=
  if Wd.okW xs then if Wd.may xs.length es then if (Wd.becomes xs es).length ≤ 24 then (Wd.becomes xs es, 0) else ([], 5) else ([], 2) else ([], 1)
theorem applied_arg {xs : List Int} {es : List Wd.Ed} (h : Wd.okW xs = false) : applied xs es = ([], 1) := by unfold applied; rw [h]; rfl
theorem applied_form {xs : List Int} {es : List Wd.Ed} (h : Wd.okW xs = true) (h2 : Wd.may xs.length es = false) : applied xs es = ([], 2) := by unfold applied; rw [h, h2]; rfl
theorem applied_big {xs : List Int} {es : List Wd.Ed} (h : Wd.okW xs = true) (h2 : Wd.may xs.length es = true) (h3 : 24 < (Wd.becomes xs es).length) : applied xs es = ([], 5) := by unfold applied; simp only [h, h2, if_true]; exact if_neg (by omega)
theorem applied_ok {xs : List Int} {es : List Wd.Ed} (h : Wd.okW xs = true) (h2 : Wd.may xs.length es = true) (h3 : (Wd.becomes xs es).length ≤ 24) : applied xs es = (Wd.becomes xs es, 0) := by unfold applied; simp only [h, h2, if_true]; exact if_pos h3

set_option maxRecDepth 100000 in
set_option maxHeartbeats 400000 in
theorem apply_any (A : Option Addr) (len cap : Nat) (xs : List Int) (Al : Option Addr) (ll cl : Nat) (es : List Wd.Ed) (w : World) (B : Nat) (hlen : len = xs.length) (hcap : len ≤ cap) (hmax : cap ≤ 9223372036854775807) (hr : Rd w B A (ins xs)) (hll : ll = es.length) (hlm : ll ≤ 1000000000) (hrl : Rd w B Al (edRow es)) (hB : B ≤ w.heap.size) :
    Calls Try.prog 11 #[.slice A len cap, .slice Al ll cl] w (IWPost (applied xs es).1 (applied xs es).2 w) := by
  have HL := Lib.hid hlen; clear hlen
  have HA := Lib.hid hr; clear hr
  have HLL := Lib.hid hll; clear hll
  have HAL := Lib.hid hrl; clear hrl
  cases ho : Wd.okW xs with
  | false =>
    have HO := Lib.hid ho
    rw [applied_arg ho]
    clear ho
    go_enter Try.func11, Try.ntmps11
    go_wp2_with fail
    refine (dright_any A len cap xs _ B HL.out (by omega) HA.out).mono ?_
    rintro e w' ⟨rfl, rfl⟩
    rw [HO.out]
    go_wp2_with fail
    go_ret2
    exact IWPost.none (Bl.refl w)
  | true =>
    have HO := Lib.hid ho
    have h24 : len ≤ 24 := by have := ((Wd.okW_iff xs).1 ho).1; have := HL.out; omega
    cases hm : Wd.may xs.length es with
    | false =>
      rw [applied_form ho hm]
      have HM : Hid (Wd.may (len : Int) es = false) := by unfold Hid; rw [HL.out]; exact hm
      clear ho hm
      go_enter Try.func11, Try.ntmps11
      go_wp2_with fail
      refine (dright_any A len cap xs _ B HL.out (by omega) HA.out).mono ?_
      rintro e w' ⟨rfl, rfl⟩
      rw [HO.out]
      go_wp2_with fail
      refine (may_any Al ll cl es len _ B HLL.out (by omega) (by omega) HAL.out hB).mono ?_
      rintro e w1 ⟨rfl, hb1⟩
      rw [HM.out]
      have HB1 := Lib.hid hb1; clear hb1
      go_wp2_with fail
      go_ret2
      exact IWPost.none HB1.out
    | true =>
      have HM : Hid (Wd.may (len : Int) es = true) := by unfold Hid; rw [HL.out]; exact hm
      have HM' := Lib.hid hm
      have HBig := Lib.hid (fun h => applied_big ho hm h)
      have HOk := Lib.hid (fun h => applied_ok ho hm h)
      generalize applied xs es = D at *
      clear ho hm
      go_enter Try.func11, Try.ntmps11
      go_wp2_with fail
      refine (dright_any A len cap xs _ B HL.out (by omega) HA.out).mono ?_
      rintro e w' ⟨rfl, rfl⟩
      rw [HO.out]
      go_wp2_with fail
      refine (may_any Al ll cl es len _ B HLL.out (by omega) (by omega) HAL.out hB).mono ?_
      rintro e w1 ⟨rfl, hb1⟩
      rw [HM.out]
      have HB1 := Lib.hid (Bl.own hb1); clear hb1
      have HA1 := Lib.hid (HA.out.bl hB HB1.out)
      have HAL1 := Lib.hid (HAL.out.bl hB HB1.out)
      have hB1 : B ≤ w1.heap.size := Nat.le_trans hB HB1.out.size
      go_wp2_with fail
      refine (edited_any A len cap xs Al ll cl es _ B HL.out hcap hmax h24 HA1.out HLL.out hlm HAL1.out hB1 HM'.out).mono ?_
      rintro e w2 ⟨A2, c2, rfl, hc2, ho2, hb2⟩
      have HO2 : Hid (w2.ownsRow w.heap.size 3 1 (.slice A2 (Wd.becomes xs es).length c2) (Wd.becomes xs es).length (ins (Wd.becomes xs es))) := own_base ho2 fun j hj => Nat.le_trans HB1.out.size (ho2.lt j hj).1
      have HB2 := Lib.hid (HB1.out.trans hb2)
      clear ho2 hb2
      by_cases hbig : 24 < (Wd.becomes xs es).length
      · have hD := HBig.out hbig
        subst hD
        go_wp2_with fail
        go_ret2
        exact IWPost.none HB2.out
      · have hD := HOk.out (by omega)
        subst hD
        go_wp2_with fail
        go_ret2
        exact IWPost.mk rfl HO2.out HB2.out
end Go.Proofs.Ytmegpmkjhbihaaa
