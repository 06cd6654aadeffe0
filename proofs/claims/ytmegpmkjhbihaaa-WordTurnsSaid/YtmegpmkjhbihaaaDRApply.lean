/- The reference's Apply: what becomes of a word, place by place. -/
import Derived.Test.YtmegpmkjhbihaaaDApply
import Derived.Test.YtmegpmkjhbihaaaDRMay
namespace Go.Proofs.Ytmegpmkjhbihaaa
open Go.RowKit

/-- What comes of the places from i on. -/
def rest (xs : List Int) (es : List Wd.Ed) (i : Nat) : List Int := if i ≤ xs.length then Wd.plc i (xs.drop i) es else []
section
variable {xs : List Int} {es : List Wd.Ed} {i k : Nat} {j : Int}
theorem rest_zero : rest xs es 0 = Wd.plc 0 xs es := by unfold rest; rw [if_pos (Nat.zero_le _)]; rfl
theorem rest_at (h : i < xs.length) : rest xs es i = Wd.puts es i ++ ((if Wd.gone es i then [] else [xs[i]]) ++ rest xs es (i + 1)) := by
  unfold rest
  rw [if_pos (show i ≤ xs.length by omega), if_pos (show i + 1 ≤ xs.length by omega), List.drop_eq_getElem_cons h, Wd.plc]
  rfl
theorem rest_end : rest xs es xs.length = Wd.puts es xs.length := by
  unfold rest
  rw [if_pos (Nat.le_refl _), List.drop_length, Wd.plc]
theorem rest_past : rest xs es (xs.length + 1) = [] := by unfold rest; rw [if_neg (by omega)]
theorem puts_next (hk : k < es.length) : Wd.puts (es.take (k + 1)) j = Wd.puts (es.take k) j ++ (if es[k].at_ = j ∧ es[k].drop = false then [es[k].tok] else []) := by
  unfold Wd.puts
  rw [List.take_succ_eq_append_getElem hk, List.filter_append, List.map_append]
  congr 1
  by_cases h1 : es[k].at_ = j
  · cases h2 : es[k].drop <;> simp [h1, h2]
  · simp [h1]
theorem gone_next (hk : k < es.length) : Wd.gone (es.take (k + 1)) j = (Wd.gone (es.take k) j || (decide (es[k].at_ = j) && es[k].drop)) := by
  unfold Wd.gone
  rw [List.take_succ_eq_append_getElem hk, List.any_append]
  simp
theorem puts_le : (Wd.puts (es.take k) j).length ≤ (Wd.puts es j).length := by
  unfold Wd.puts
  rw [List.length_map, List.length_map]
  exact ((List.take_sublist k es).filter _).length_le
theorem gain_le : ∀ l : List Wd.Ed, Wd.gain l ≤ l.length
  | [] => by simp [Wd.gain]
  | e :: l => by
    have ih := gain_le l
    rw [Wd.gain_cons, List.length_cons]
    split <;> omega
theorem plc_len (h : Wd.may xs.length es = true) : (Wd.plc 0 xs es).length ≤ xs.length + es.length := by
  have h1 := Wd.becomes_len h
  have h2 := gain_le es
  rw [Wd.becomes_plc h] at h1
  omega
end

/-- Where the outer loop stands: the places up to i are gone through. -/
def PRel (w : World) (xs : List Int) (es : List Wd.Ed) (i : Nat) (out : List Int) (v : Value) (wr : World) : Prop :=
  Wd.plc 0 xs es = out ++ rest xs es i ∧ wr.ownsRow w.heap.size 3 1 v out.length (ins out) ∧ Bl w wr
/-- Where the inner loop stands: k edits are looked at for place i. -/
def ERel (w : World) (es : List Wd.Ed) (i k : Nat) (out : List Int) (G : Bool) (v g : Value) (wr : World) : Prop :=
  wr.ownsRow w.heap.size 3 1 v (out ++ Wd.puts (es.take k) i).length (ins (out ++ Wd.puts (es.take k) i)) ∧ g = .bool (G || Wd.gone (es.take k) i) ∧ Bl w wr
section
variable {w wr w2 : World} {xs : List Int} {es : List Wd.Ed} {i k : Nat} {out : List Int} {G : Bool} {v v2 g : Value} {o : Obj}
theorem PRel.own (h : PRel w xs es i out v wr) : wr.ownsRow w.heap.size 3 1 v out.length (ins out) := h.2.1
theorem PRel.b (h : PRel w xs es i out v wr) : Bl w wr := h.2.2
theorem PRel.start (h : PRel w xs es i out v wr) : ERel w es i 0 out G v (.bool G) wr := by
  have e : Wd.puts (es.take 0) i = [] := rfl
  have e2 : Wd.gone (es.take 0) i = false := rfl
  unfold ERel
  rw [e, List.append_nil, e2, Bool.or_false]
  exact ⟨h.2.1, rfl, h.2.2⟩
theorem ERel.own (h : ERel w es i k out G v g wr) : wr.ownsRow w.heap.size 3 1 v (out ++ Wd.puts (es.take k) i).length (ins (out ++ Wd.puts (es.take k) i)) := h.1
theorem ERel.b (h : ERel w es i k out G v g wr) : Bl w wr := h.2.2
theorem ERel.other (h : ERel w es i k out G v g wr) (hk : k < es.length) (hx : es[k].at_ ≠ i) : ERel w es i (k + 1) out G v g wr := by
  unfold ERel
  rw [puts_next hk, gone_next hk, if_neg (fun h => hx h.1), List.append_nil, decide_eq_false hx, Bool.false_and, Bool.or_false]
  exact h
theorem ERel.drop (h : ERel w es i k out G v g wr) (hk : k < es.length) (hx : es[k].at_ = i) (hd : es[k].drop = true) : ERel w es i (k + 1) out G v (.bool true) wr := by
  unfold ERel
  rw [puts_next hk, gone_next hk, if_neg (fun h => by rw [hd] at h; cases h.2), List.append_nil, decide_eq_true hx, hd, Bool.true_and, Bool.or_true, Bool.or_true]
  exact ⟨h.1, rfl, h.2.2⟩
theorem ERel.put (h : ERel w es i k out G v g wr) (hk : k < es.length) (hx : es[k].at_ = i) (hd : es[k].drop = false)
    (ho : w2.ownsRow w.heap.size 3 1 v2 ((out ++ Wd.puts (es.take k) i).length + 1) (ins (out ++ Wd.puts (es.take k) i) ++ [.int .i64 es[k].tok])) (hg : (wr.alloc o).grownBy w2 v.ownBlock) : ERel w es i (k + 1) out G v2 g w2 := by
  refine ⟨?_, ?_, (h.b.alloc o).grown hg fun j hj => (h.1.lt j hj).1⟩
  · rw [puts_next hk, if_pos ⟨hx, hd⟩, ← List.append_assoc, List.length_append, ins_append]
    exact ho
  · rw [gone_next hk, hd, Bool.and_false, Bool.or_false]
    exact h.2.1
theorem PRel.next_gone (h : ERel w es i k out G v g wr) (hk : k = es.length) (hp : Wd.plc 0 xs es = out ++ rest xs es i) (hi : i ≤ xs.length) (hG : i = xs.length ∨ Wd.gone es i = true) : PRel w xs es (i + 1) (out ++ Wd.puts es i) v wr := by
  have e : es.take k = es := List.take_of_length_le (by omega)
  unfold ERel at h
  rw [e] at h
  refine ⟨?_, h.1, h.2.2⟩
  rw [hp, List.append_assoc]
  congr 1
  rcases hG with rfl | hG
  · rw [rest_end, rest_past, List.append_nil]
  · rcases Nat.lt_or_ge i xs.length with hl | hl
    · rw [rest_at hl, hG]; rfl
    · obtain rfl : i = xs.length := by omega
      rw [rest_end, rest_past, List.append_nil]
theorem PRel.next_stay (h : ERel w es i k out G v g wr) (hk : k = es.length) (hp : Wd.plc 0 xs es = out ++ rest xs es i) (hi : i < xs.length) (hG : Wd.gone es i = false)
    (ho : w2.ownsRow w.heap.size 3 1 v2 ((out ++ Wd.puts (es.take k) i).length + 1) (ins (out ++ Wd.puts (es.take k) i) ++ [.int .i64 xs[i]])) (hg : (wr.alloc o).grownBy w2 v.ownBlock) : PRel w xs es (i + 1) ((out ++ Wd.puts es i) ++ [xs[i]]) v2 w2 := by
  have e : es.take k = es := List.take_of_length_le (by omega)
  rw [e] at ho
  refine ⟨?_, ?_, (h.b.alloc o).grown hg fun j hj => (h.1.lt j hj).1⟩
  · rw [hp, rest_at hi, hG]
    simp
  · rw [List.length_append, ins_append]
    exact ho
end

set_option maxRecDepth 100000 in
set_option maxHeartbeats 2000000 in
theorem rapply_any (A : Option Addr) (len cap : Nat) (xs : List Int) (Al : Option Addr) (ll cl : Nat) (es : List Wd.Ed) (w : World) (B : Nat) (hlen : len = xs.length) (hcap : len ≤ cap) (hmax : cap ≤ 9223372036854775807) (hr : Rd w B A (ins xs)) (hll : ll = es.length) (hlm : ll ≤ 1000000000) (hrl : Rd w B Al (edRow es)) (hB : B ≤ w.heap.size) :
    Calls Try.prog 12 #[.slice A len cap, .slice Al ll cl] w (IWPost (applied xs es).1 (applied xs es).2 w) := by
  obtain ⟨i0, hi, hz0, hz1, hz2⟩ := info_parts int_info
  have HL := Lib.hid hlen; clear hlen
  have HA := Lib.hid hr; clear hr
  have HLL := Lib.hid hll; clear hll
  have HAL := Lib.hid hrl; clear hrl
  cases ho : Wd.okW xs with
  | false =>
    have HO := Lib.hid ho
    rw [applied_arg ho]
    clear ho
    go_enter Try.func12, Try.ntmps12
    go_wp2_with fail
    refine (rdright_any A len cap xs _ B HL.out (by omega) HA.out).mono ?_
    rintro e w' ⟨rfl, rfl⟩
    rw [HO.out]
    go_wp2_with fail
    go_ret2
    exact IWPost.none (Bl.refl w)
  | true =>
    have HO := Lib.hid ho
    have h24 : len ≤ 24 := by have := ((Wd.okW_iff xs).1 ho).1; have := HL.out; omega
    cases hm : Wd.may xs.length es with
    | false =>
      rw [applied_form ho hm]
      have HM : Hid (Wd.may (len : Int) es = false) := by unfold Hid; rw [HL.out]; exact hm
      clear ho hm
      go_enter Try.func12, Try.ntmps12
      go_wp2_with fail
      refine (rdright_any A len cap xs _ B HL.out (by omega) HA.out).mono ?_
      rintro e w' ⟨rfl, rfl⟩
      rw [HO.out]
      go_wp2_with fail
      refine (rmay_any Al ll cl es len _ B HLL.out (by omega) HAL.out).mono ?_
      rintro e w1 ⟨rfl, hb1⟩
      rw [HM.out]
      have HB1 := Lib.hid hb1; clear hb1
      go_wp2_with fail
      go_ret2
      exact IWPost.none HB1.out
    | true =>
      have HM : Hid (Wd.may (len : Int) es = true) := by unfold Hid; rw [HL.out]; exact hm
      have HPl : Hid (Wd.becomes xs es = Wd.plc 0 xs es) := Wd.becomes_plc hm
      have hpl : (Wd.plc 0 xs es).length ≤ len + ll := by have := plc_len hm; have := HL.out; have := HLL.out; omega
      have HBig := Lib.hid (fun h => applied_big ho hm h)
      have HOk := Lib.hid (fun h => applied_ok ho hm h)
      generalize applied xs es = D at *
      clear ho hm
      go_enter Try.func12, Try.ntmps12
      go_wp2_with fail
      refine (rdright_any A len cap xs _ B HL.out (by omega) HA.out).mono ?_
      rintro e w' ⟨rfl, rfl⟩
      rw [HO.out]
      go_wp2_with fail
      refine (rmay_any Al ll cl es len _ B HLL.out (by omega) HAL.out).mono ?_
      rintro e w1 ⟨rfl, hb1⟩
      rw [HM.out]
      have HB1 := Lib.hid (Bl.own hb1); clear hb1
      have hsz : w.heap.size ≤ w1.heap.size := HB1.out.size
      have H0 : Hid (PRel w xs es 0 [] (.slice (some ⟨w1.heap.size, 0, none⟩) 0 0) (w1.alloc (.cells #[] 3))) := by
        refine ⟨by rw [rest_zero]; rfl, own_base (World.ownsRow_lit (base := w1.heap.size) (e := 3) (size := 1) w1 #[] 0 (Nat.le_refl _) (by simp [maxLen]) rfl) fun k hk => ?_, HB1.out.alloc _⟩
        injection hk with hk
        have hk : w1.heap.size = k := hk
        omega
      go_wp2_with fail
      go_loopw [6, 7] (fun v iv wr => ∃ (i : Nat) (out : List Int), i ≤ len + 1 ∧ iv = .int .i64 i ∧ Hid (PRel w xs es i out v wr)) (fun _ iv _ => len + 1 - (intOf iv).toNat)
      case atStart => exact ⟨0, [], Nat.zero_le _, rfl, H0⟩
      case round =>
        obtain ⟨i, out, hil, rfl, HP⟩ := hrel
        by_cases hlt : i ≤ len
        · obtain ⟨G, hG⟩ : ∃ G : Bool, ((i : Int) == (len : Int)) = G := ⟨_, rfl⟩
          have HGi : Hid (G = true ↔ i = len) := by
            unfold Hid
            rw [← hG]
            simp
            omega
          have hol : (out ++ Wd.puts es i).length ≤ len + ll := by
            have h1 := HP.out.1
            have h2 : (out ++ rest xs es i).length ≤ len + ll := by rw [← h1]; exact hpl
            have h3 : (Wd.puts es i).length ≤ (rest xs es i).length := by
              rcases Nat.lt_or_ge i xs.length with hl | hl
              · rw [rest_at hl, List.length_append]; omega
              · obtain rfl : i = xs.length := by have := HL.out; omega
                rw [rest_end]; exact Nat.le_refl _
            rw [List.length_append] at h2 ⊢
            omega
          have HS := Lib.hid (PRel.start (G := G) HP.out)
          have HPE := Lib.hid HP.out.1
          clear HP
          go_wp2_with fail
          generalize hwr : wr = wo at *
          clear hwr
          go_loopw [6, 8, 9] (fun v g kv wr => ∃ (k : Nat) (b : Bool), k ≤ ll ∧ g = .bool b ∧ kv = .int .i64 k ∧ Hid (ERel w es i k out G v g wr)) (fun _ _ kv _ => ll - (intOf kv).toNat)
          case atStart => exact ⟨0, G, Nat.zero_le _, rfl, rfl, HS⟩
          case round =>
            obtain ⟨k, gb, hk, rfl, rfl, HE⟩ := hrel
            have hol2 : (out ++ Wd.puts (es.take k) i).length ≤ len + ll := by
              have h1 := puts_le (es := es) (k := k) (j := (i : Int))
              rw [List.length_append] at hol ⊢
              omega
            by_cases hkl : k < ll
            · have hj : k < es.length := by have := HLL.out; omega
              obtain ⟨b, off, rfl, hbB, hc0, hc1, hc2⟩ := (HAL.out.bl hB HE.out.b).edit hj
              have HOther := Lib.hid (fun h => HE.out.other hj h)
              have HDrop := Lib.hid (fun h h2 => HE.out.drop hj h h2)
              have HPut := Lib.hid (fun h h2 (o : Obj) (w2 : World) (v2 : Value) ho hg => HE.out.put (o := o) (w2 := w2) (v2 := v2) hj h h2 ho hg)
              generalize es[k] = x at *
              obtain ⟨xa, xd, xt⟩ := x
              simp only at hc0 hc1 hc2
              clear hj
              have HOw := Lib.hid (HE.out.own)
              have hwz : w.heap.size ≤ wr.heap.size := HE.out.b.size
              by_cases hxi : xa = i
              · have hq : (xa == (i : Int)) = true := by simp [hxi]
                cases xd with
                | true =>
                  have HN := Lib.hid (HDrop.out hxi rfl)
                  clear hxi
                  go_wp2_with fail
                  go_roundw
                  case rel => exact ⟨k + 1, true, by omega, rfl, by go_num, HN.out⟩
                  case measure => simp [intOf]; omega
                | false =>
                  have HXI := Lib.hid hxi
                  clear hxi
                  go_wp2_with (at_builtin; refine wpList_append_own _ rfl (.tmp 64) (.tmp 70) 25 rfl w.heap.size 3 i0 (.int .i64 0) 1 8 Try.underlying25 hi hz0 hz1 hz2 rfl (by decide) _ _ _ rfl (HOw.out.alloc _) ⟨wr.heap.size, 0, none⟩ 1 1 [.int .i64 xt] rfl rfl (one_new _ _ _) (by simp [Value.oneCell']) (by simp only [maxLen]; omega) (by omega) (by simp; omega) ?_; intro v2 w2 hown2 hg2 _; have HN := Lib.hid (HPut.out HXI.out rfl _ _ _ hown2 hg2); clear hown2 hg2)
                  go_roundw
                  case rel => exact ⟨k + 1, gb, by omega, rfl, by go_num, HN.out⟩
                  case measure => simp [intOf]; omega
              · have hq : (xa == (i : Int)) = false := by simpa using hxi
                have HN := Lib.hid (HOther.out hxi)
                clear hxi
                go_wp2_with fail
                go_roundw
                case rel => exact ⟨k + 1, gb, by omega, rfl, by go_num, HN.out⟩
                case measure => simp [intOf]; omega
            · have hke : k = es.length := by have := HLL.out; omega
              have hgb : gb = (G || Wd.gone (es.take k) i) := by
                have h := HE.out.2.1
                injection h
              rw [show es.take k = es from List.take_of_length_le (by omega)] at hgb
              have HKE := Lib.hid hke; clear hke
              have HOw := Lib.hid (HE.out.own)
              have hwz : w.heap.size ≤ wr.heap.size := HE.out.b.size
              cases gb with
              | true =>
                have HN : Hid (PRel w xs es (i + 1) (out ++ Wd.puts es i) _ wr) := PRel.next_gone HE.out HKE.out HPE.out (by have := HL.out; omega) (by
                  have hgb := hgb.symm
                  rw [Bool.or_eq_true] at hgb
                  rcases hgb with h | h
                  · exact .inl (by have := HGi.out.1 h; have := HL.out; omega)
                  · exact .inr h)
                clear hgb
                go_wp2_with fail
                go_roundw
                case rel => exact ⟨i + 1, _, by omega, by go_num, HN.out⟩
                case measure => simp [intOf]; omega
              | false =>
                have hg2 := (Bool.or_eq_false_iff.1 hgb.symm)
                have hne : i ≠ len := fun e => by have := HGi.out.2 e; rw [hg2.1] at this; cases this
                have hil2 : i < xs.length := by have := HL.out; omega
                obtain ⟨b, off, rfl, hbB, hc0⟩ := (HA.out.bl hB HE.out.b).int hil2
                have HStay := Lib.hid (fun (o : Obj) (w2 : World) (v2 : Value) ho hg => PRel.next_stay (o := o) (w2 := w2) (v2 := v2) HE.out HKE.out HPE.out hil2 hg2.2 ho hg)
                generalize xs[i] = x at *
                have hlt2 : i < len := by omega
                clear hg2 hgb hil2
                go_wp2_with (at_builtin; refine wpList_append_own _ rfl (.tmp 74) (.tmp 79) 25 rfl w.heap.size 3 i0 (.int .i64 0) 1 8 Try.underlying25 hi hz0 hz1 hz2 rfl (by decide) _ _ _ rfl (HOw.out.alloc _) ⟨wr.heap.size, 0, none⟩ 1 1 [.int .i64 x] rfl rfl (one_new _ _ _) (by simp [Value.oneCell']) (by simp only [maxLen]; omega) (by omega) (by simp; omega) ?_; intro v2 w2 hown2 hg2 _; have HN := Lib.hid (HStay.out _ _ _ hown2 hg2); clear hown2 hg2)
                go_roundw
                case rel => exact ⟨i + 1, _, by omega, by go_num, HN.out⟩
                case measure => simp [intOf]; omega
        · have hie : i = xs.length + 1 := by have := HL.out; omega
          obtain ⟨h1, h2, h3⟩ := HP.out
          rw [hie, rest_past, List.append_nil, ← HPl.out] at h1
          subst h1
          obtain ⟨A9, c9, hv, hc9⟩ := own_slice h2
          subst hv
          have HO9 := Lib.hid h2
          have HB9 := Lib.hid h3
          clear h2 h3 hie HP
          by_cases hbig : 24 < (Wd.becomes xs es).length
          · have hD := HBig.out hbig
            subst hD
            go_wp2_with fail
            go_ret2
            exact IWPost.none HB9.out
          · have hD := HOk.out (by omega)
            subst hD
            go_wp2_with fail
            go_ret2
            exact IWPost.mk rfl HO9.out HB9.out
end Go.Proofs.Ytmegpmkjhbihaaa
