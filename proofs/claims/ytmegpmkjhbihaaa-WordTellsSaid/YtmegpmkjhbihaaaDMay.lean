/- word.May: may edits be? -/
import Derived.Test.YtmegpmkjhbihaaaDRight
namespace Go.Proofs.Ytmegpmkjhbihaaa
open Go.RowKit

/-- May an edit be, whatever is ahead of it; where the next one may be. -/
def aloneB (size : Int) (e : Wd.Ed) : Bool := if e.drop then decide (e.at_ < size) && decide (e.tok = 0) else decide (e.at_ ≤ size) && belowB e.tok 16
def nextAt (e : Wd.Ed) : Int := if e.drop then e.at_ + 1 else e.at_
/-- The edits gone through, one by one. -/
def chk (size : Int) : Int → List Wd.Ed → Bool
  | _, [] => true
  | least, e :: l => (decide (least ≤ e.at_) && aloneB size e) && chk size (nextAt e) l
theorem aloneB_iff {size : Int} {e : Wd.Ed} (h0 : 0 ≤ e.at_) : aloneB size e = true ↔ Wd.oneE size e = true := by
  obtain ⟨a, d, t⟩ := e
  rw [Wd.oneE_iff]
  unfold aloneB belowB
  cases d <;> simp at * <;> omega
theorem nextAt_iff (a b : Wd.Ed) : nextAt a ≤ b.at_ ↔ Wd.nextE a b = true := by
  rw [Wd.nextE_iff]
  unfold nextAt
  cases a.drop <;> simp <;> omega
theorem chk_iff (size : Int) : ∀ (l : List Wd.Ed) (least : Int), 0 ≤ least → (chk size least l = true ↔ Wd.may size l = true ∧ ∀ f r, l = f :: r → least ≤ f.at_)
  | [], _, _ => by simp [chk, Wd.may]
  | e :: l, least, h0 => by
    unfold chk
    rw [Bool.and_eq_true, Bool.and_eq_true, decide_eq_true_eq]
    constructor
    · rintro ⟨⟨h1, h2⟩, h3⟩
      have hn : 0 ≤ nextAt e := by unfold nextAt; split <;> omega
      obtain ⟨g1, g2⟩ := (chk_iff size l (nextAt e) hn).1 h3
      refine ⟨Wd.may_of ((aloneB_iff (by omega)).1 h2) (fun f r e' => (nextAt_iff _ _).1 (g2 f r e')) g1, fun f r e' => ?_⟩
      injection e' with e1 _
      subst e1
      exact h1
    · rintro ⟨h1, h2⟩
      have h3 := h2 e l rfl
      have hn : 0 ≤ nextAt e := by unfold nextAt; split <;> omega
      obtain ⟨g1, g2, g3⟩ := Wd.may_cons h1
      exact ⟨⟨h3, (aloneB_iff (by omega)).2 g1⟩, (chk_iff size l (nextAt e) hn).2 ⟨g3, fun f r e' => (nextAt_iff _ _).2 (g2 f r e')⟩⟩
theorem may_chk {size : Int} {l : List Wd.Ed} : Wd.may size l = chk size 0 l := by
  rw [Bool.eq_iff_iff, chk_iff size l 0 (Int.le_refl _)]
  constructor
  · intro h
    refine ⟨h, fun f r e => ?_⟩
    subst e
    exact ((Wd.oneE_iff _ _).1 (Wd.may_cons h).1).1
  · exact fun h => h.1
theorem chk_low {size least : Int} {l : List Wd.Ed} {k : Nat} (hk : k < l.length) (h : l[k].at_ < least) : chk size least (l.drop k) = false := by
  rw [List.drop_eq_getElem_cons hk]
  unfold chk
  rw [decide_eq_false (by omega)]
  rfl
theorem chk_bad {size least : Int} {l : List Wd.Ed} {k : Nat} (hk : k < l.length) (h : aloneB size l[k] = false) : chk size least (l.drop k) = false := by
  rw [List.drop_eq_getElem_cons hk]
  unfold chk
  rw [h, Bool.and_false]
  rfl
theorem chk_on {size least : Int} {l : List Wd.Ed} {k : Nat} (hk : k < l.length) (h1 : least ≤ l[k].at_) (h : aloneB size l[k] = true) : chk size least (l.drop k) = chk size (nextAt l[k]) (l.drop (k + 1)) := by
  rw [List.drop_eq_getElem_cons hk]
  rw [chk, h, decide_eq_true h1]
  rfl

set_option maxHeartbeats 400000 in
theorem alone_any (a : Int) (d : Bool) (t size : Int) (w : World) : Calls Try.prog 31 #[.agg #[.int .i64 a, .bool d, .int .i64 t], .int .i64 size] w fun e w' => e = .returned (.bool (aloneB size ⟨a, d, t⟩)) ∧ Bl w w' := by
  have HB : Hid (Bl w (w.alloc (.cells #[.int .i64 a, .bool d, .int .i64 t] 43))) := (Bl.refl w).alloc _
  cases d with
  | true =>
    have HD : Hid (aloneB size ⟨a, true, t⟩ = (decide (a < size) && decide (t = 0))) := rfl
    by_cases h1 : a < size
    · by_cases h2 : t = 0
      · have HG : Hid (aloneB size ⟨a, true, t⟩ = true) := by unfold Hid; rw [HD.out]; simp [h1, h2]
        have hq : (t == 0) = true := by simp [h2]
        clear h2
        go_enter Try.func31, Try.ntmps31
        go_wp2_with fail
        go_ret
        exact ⟨by rw [HG.out]; rfl, HB.out⟩
      · have HG : Hid (aloneB size ⟨a, true, t⟩ = false) := by unfold Hid; rw [HD.out]; simp [h1, h2]
        have hq : (t == 0) = false := by simpa using h2
        clear h2
        go_enter Try.func31, Try.ntmps31
        go_wp2_with fail
        go_ret
        exact ⟨by rw [HG.out]; rfl, HB.out⟩
    · have HG : Hid (aloneB size ⟨a, true, t⟩ = false) := by unfold Hid; rw [HD.out]; simp [h1]
      go_enter Try.func31, Try.ntmps31
      go_wp2_with fail
      go_ret
      exact ⟨by rw [HG.out]; rfl, HB.out⟩
  | false =>
    have HD : Hid (aloneB size ⟨a, false, t⟩ = (decide (a ≤ size) && belowB t 16)) := rfl
    by_cases h1 : a ≤ size
    · have HG : Hid (aloneB size ⟨a, false, t⟩ = belowB t 16) := by unfold Hid; rw [HD.out]; simp [h1]
      go_enter Try.func31, Try.ntmps31
      go_wp2_with fail
      refine (dbelow_any t 16 _).mono ?_
      rintro e w' ⟨rfl, rfl⟩
      go_wp2_with fail
      go_ret
      exact ⟨by rw [HG.out]; rfl, HB.out⟩
    · have HG : Hid (aloneB size ⟨a, false, t⟩ = false) := by unfold Hid; rw [HD.out]; simp [h1]
      go_enter Try.func31, Try.ntmps31
      go_wp2_with fail
      go_ret
      exact ⟨by rw [HG.out]; rfl, HB.out⟩

set_option maxRecDepth 100000 in
set_option maxHeartbeats 1000000 in
theorem may_any (A : Option Addr) (len cap : Nat) (es : List Wd.Ed) (size : Int) (w : World) (B : Nat) (hlen : len = es.length) (hmax : len ≤ 9223372036854775807) (hs : size ≤ 9223372036854775807) (hr : Rd w B A (edRow es)) (hB : B ≤ w.heap.size) :
    Calls Try.prog 19 #[.slice A len cap, .int .i64 size] w fun e w' => e = .returned (.bool (Wd.may size es)) ∧ Bl w w' := by
  have HL := Lib.hid hlen; clear hlen
  have HA := Lib.hid hr; clear hr
  go_enter Try.func19, Try.ntmps19
  go_wp2_with fail
  go_loopw [5, 10] (fun v i wr => ∃ (k : Nat) (least : Int), k ≤ len ∧ v = .int .i64 least ∧ i = .int .i64 k ∧ 0 ≤ least ∧ Hid (Wd.may size es = chk size least (es.drop k)) ∧ Hid (Bl w wr)) (fun _ i _ => len - (intOf i).toNat)
  case atStart => exact ⟨0, 0, Nat.zero_le _, rfl, rfl, Int.le_refl _, may_chk, Bl.refl w⟩
  case round =>
    obtain ⟨k, least, hk, rfl, rfl, hl0, HM, HB⟩ := hrel
    by_cases hlt : k < len
    · have hj : k < es.length := by have := HL.out; omega
      obtain ⟨b, off, rfl, hbB, hc0, hc1, hc2⟩ := (HA.out.bl hB HB.out).edit hj
      have HLow := Lib.hid (fun h => (HM.out).trans (chk_low (size := size) (least := least) hj h))
      have HBad := Lib.hid (fun h => (HM.out).trans (chk_bad (size := size) (least := least) hj h))
      have HOn := Lib.hid (fun h1 h => (HM.out).trans (chk_on (size := size) (least := least) hj h1 h))
      generalize es[k] = x at *
      obtain ⟨xa, xd, xt⟩ := x
      simp only at hc0 hc1 hc2
      clear hj
      by_cases hlow : xa < least
      · have HG := Lib.hid (HLow.out hlow)
        go_wp2_with fail
        go_ret
        exact ⟨by rw [HG.out]; rfl, HB.out.alloc _⟩
      cases hx : aloneB size ⟨xa, xd, xt⟩ with
      | false =>
        have HX := Lib.hid hx
        have HG := Lib.hid (HBad.out hx)
        clear hx
        go_wp2_with fail
        refine (alone_any xa xd xt size _).mono ?_
        rintro e w1 ⟨rfl, hb1⟩
        rw [HX.out]
        have HB1 := Lib.hid ((HB.out.alloc _).trans hb1); clear hb1
        go_wp2_with fail
        go_ret
        exact ⟨by rw [HG.out]; rfl, HB1.out⟩
      | true =>
        have HX := Lib.hid hx
        have HG := Lib.hid (HOn.out (by show least ≤ xa; omega) hx)
        cases xd with
        | true =>
          have ha : xa < size := by
            unfold aloneB at hx
            simp at hx
            exact hx.1
          have hwr : IntKind.i64.wrap (xa + 1) = xa + 1 := IntWalk.i64_in _ ⟨by omega, by omega⟩
          clear hx
          go_wp2_with fail
          refine (alone_any xa true xt size _).mono ?_
          rintro e w1 ⟨rfl, hb1⟩
          rw [HX.out]
          have HB1 := Lib.hid ((HB.out.alloc _).trans hb1)
          have HK1 := Lib.hid ((Bk.new wr 43 #[.int .i64 xa, .bool true, .int .i64 xt]).bl hb1)
          have d0 : w1.cell? ⟨wr.heap.size, 0, none⟩ = some (.int .i64 xa) := HK1.out.cell 0
          have d1 : w1.cell? ⟨wr.heap.size, 1, none⟩ = some (.bool true) := HK1.out.cell 1
          have d2 : w1.cell? ⟨wr.heap.size, 2, none⟩ = some (.int .i64 xt) := HK1.out.cell 2
          clear hb1
          go_wp2_with fail
          go_roundw
          case rel => exact ⟨k + 1, xa + 1, by omega, by go_num, by go_num, by omega, HG.out, HB1.out⟩
          case measure => simp [intOf]; omega
        | false =>
          clear hx
          go_wp2_with fail
          refine (alone_any xa false xt size _).mono ?_
          rintro e w1 ⟨rfl, hb1⟩
          rw [HX.out]
          have HB1 := Lib.hid ((HB.out.alloc _).trans hb1)
          have HK1 := Lib.hid ((Bk.new wr 43 #[.int .i64 xa, .bool false, .int .i64 xt]).bl hb1)
          have d0 : w1.cell? ⟨wr.heap.size, 0, none⟩ = some (.int .i64 xa) := HK1.out.cell 0
          have d1 : w1.cell? ⟨wr.heap.size, 1, none⟩ = some (.bool false) := HK1.out.cell 1
          have d2 : w1.cell? ⟨wr.heap.size, 2, none⟩ = some (.int .i64 xt) := HK1.out.cell 2
          clear hb1
          go_wp2_with fail
          go_roundw
          case rel => exact ⟨k + 1, xa, by omega, by first | rfl | go_num, by go_num, by omega, HG.out, HB1.out⟩
          case measure => simp [intOf]; omega
    · go_wp2_with fail
      go_ret
      have hg : Wd.may size es = true := by
        have h := HM.out
        rw [List.drop_of_length_le (by have := HL.out; omega)] at h
        exact h
      exact ⟨by rw [hg]; rfl, HB.out⟩
end Go.Proofs.Ytmegpmkjhbihaaa
