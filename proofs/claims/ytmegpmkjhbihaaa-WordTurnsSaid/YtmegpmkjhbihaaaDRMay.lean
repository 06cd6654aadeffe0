/- The reference's May: may edits be? -/
import Derived.Test.YtmegpmkjhbihaaaDMay
import Derived.BigQuiet
namespace Go.Proofs.Ytmegpmkjhbihaaa
open Go.RowKit

theorem may_take_one {size : Int} {l : List Wd.Ed} {k : Nat} (hk : k < l.length) (h : Wd.oneE size l[k] = false) : Wd.may size l = false := by
  rw [Bool.eq_false_iff]
  intro e
  have := ((Wd.may_iff l size).1 e).1 k hk
  rw [h] at this; cases this
theorem may_take_next {size : Int} {l : List Wd.Ed} {k : Nat} (hk : k + 1 < l.length) (h : Wd.nextE l[k] l[k + 1] = false) : Wd.may size l = false := by
  rw [Bool.eq_false_iff]
  intro e
  have := ((Wd.may_iff l size).1 e).2 k hk
  rw [h] at this; cases this
theorem may_take_first {size : Int} {l : List Wd.Ed} (hk : 0 < l.length) (h : Wd.oneE size l[0] = true) : Wd.may size (l.take (0 + 1)) = true := by
  rw [Wd.may_iff]
  refine ⟨fun i hi => ?_, fun i hi => ?_⟩
  · rw [List.length_take] at hi
    obtain rfl : i = 0 := by omega
    simpa using h
  · rw [List.length_take] at hi; omega
theorem may_take_more {size : Int} {l : List Wd.Ed} {k : Nat} (hk : k + 1 < l.length) (hm : Wd.may size (l.take (k + 1)) = true) (h : Wd.oneE size l[k + 1] = true) (hn : Wd.nextE l[k] l[k + 1] = true) : Wd.may size (l.take (k + 1 + 1)) = true := by
  rw [Wd.may_iff] at hm ⊢
  obtain ⟨h1, h2⟩ := hm
  refine ⟨fun i hi => ?_, fun i hi => ?_⟩
  · rw [List.length_take] at hi
    rcases Nat.lt_or_ge i (k + 1) with hl | hl
    · have := h1 i (by rw [List.length_take]; omega)
      simpa using this
    · obtain rfl : i = k + 1 := by omega
      simpa using h
  · rw [List.length_take] at hi
    rcases Nat.lt_or_ge (i + 1) (k + 1) with hl | hl
    · have := h2 i (by rw [List.length_take]; omega)
      simpa using this
    · obtain rfl : i = k := by omega
      simpa using hn
theorem one_no {size a t : Int} {d : Bool} (h : a < 0 ∨ size < a ∨ t < 0 ∨ 15 < t ∨ (d = true ∧ (size ≤ a ∨ t ≠ 0))) : Wd.oneE size ⟨a, d, t⟩ = false := by
  rw [Bool.eq_false_iff]
  intro e
  obtain ⟨h1, h2, h3, h4, h5⟩ := (Wd.oneE_iff _ _).1 e
  simp only at h1 h2 h3 h4 h5
  rcases h with h | h | h | h | ⟨hd, h⟩
  · omega
  · omega
  · omega
  · omega
  · have := h5 hd
    omega
theorem next_no {a t c u : Int} {d f : Bool} (h : c < a ∨ (d = true ∧ c = a)) : Wd.nextE ⟨a, d, t⟩ ⟨c, f, u⟩ = false := by
  rw [Bool.eq_false_iff]
  intro e
  obtain ⟨h1, h2⟩ := (Wd.nextE_iff _ _).1 e
  simp only at h1 h2
  rcases h with h | ⟨hd, h⟩
  · omega
  · have := h2 hd
    omega
theorem next_yes {a t c u : Int} {d f : Bool} (h : a ≤ c) (h2 : d = true → a ≠ c) : Wd.nextE ⟨a, d, t⟩ ⟨c, f, u⟩ = true :=
  (Wd.nextE_iff _ _).2 ⟨h, fun hd => by have := h2 hd; show a < c; omega⟩

set_option maxRecDepth 100000 in
set_option maxHeartbeats 2000000 in
theorem rmay_any (A : Option Addr) (len cap : Nat) (es : List Wd.Ed) (size : Int) (w : World) (B : Nat) (hlen : len = es.length) (hmax : len ≤ 9223372036854775807) (hr : Rd w B A (edRow es)) :
    Calls Try.prog 20 #[.slice A len cap, .int .i64 size] w fun e w' => e = .returned (.bool (Wd.may size es)) ∧ Bl w w' := by
  have HL := Lib.hid hlen; clear hlen
  have HA := Lib.hid hr; clear hr
  go_enter Try.func20, Try.ntmps20
  go_wp2_with fail
  go_loopw [5] (fun i wr => ∃ (k q : Nat), k ≤ len ∧ i = .int .i64 k ∧ wr = w.drewN q ∧ Hid (Wd.may size (es.take k) = true)) (fun i _ => len - (intOf i).toNat)
  case atStart => exact ⟨0, 0, Nat.zero_le _, rfl, rfl, rfl⟩
  case round =>
    obtain ⟨k, q, hk, rfl, rfl, HM⟩ := hrel
    have HB : Hid (Bl w (w.drewN q)) := (Bl.refl w).drewN q
    by_cases hlt : k < len
    · have hj : k < es.length := by have := HL.out; omega
      obtain ⟨b, off, rfl, hbB, hc0, hc1, hc2⟩ := HA.out.edit hj
      have HBad := Lib.hid (fun h => may_take_one (size := size) hj h)
      have HX : Hid (∃ x, es[k]? = some x ∧ es[k] = x) := ⟨es[k], List.getElem?_eq_getElem hj, rfl⟩
      generalize hx : es[k] = x at hc0 hc1 hc2 HBad
      have HXk := Lib.hid hx; clear hx HX
      obtain ⟨xa, xd, xt⟩ := x
      simp only at hc0 hc1 hc2
      by_cases h1 : xa < 0
      · have HG := Lib.hid (HBad.out (one_no (.inl h1)))
        go_wp2_with fail
        go_ret
        exact ⟨by rw [HG.out]; rfl, HB.out⟩
      by_cases h2 : size < xa
      · have HG := Lib.hid (HBad.out (one_no (.inr (.inl h2))))
        go_wp2_with fail
        go_ret
        exact ⟨by rw [HG.out]; rfl, HB.out⟩
      by_cases h3 : xt < 0
      · have HG := Lib.hid (HBad.out (one_no (.inr (.inr (.inl h3)))))
        go_wp2_with fail
        go_ret
        exact ⟨by rw [HG.out]; rfl, HB.out⟩
      by_cases h4 : 15 < xt
      · have HG := Lib.hid (HBad.out (one_no (.inr (.inr (.inr (.inl h4))))))
        go_wp2_with fail
        go_ret
        exact ⟨by rw [HG.out]; rfl, HB.out⟩
      have hone : xd = true ∧ (size ≤ xa ∨ xt ≠ 0) ∨ (xd = true ∧ xa < size ∧ xt = 0) ∨ xd = false := by
        cases xd with
        | false => exact .inr (.inr rfl)
        | true => by_cases hh : size ≤ xa ∨ xt ≠ 0
                  · exact .inl ⟨rfl, hh⟩
                  · exact .inr (.inl ⟨rfl, by omega, by omega⟩)
      rcases hone with ⟨rfl, h5⟩ | hone
      · have HG := Lib.hid (HBad.out (one_no (.inr (.inr (.inr (.inr ⟨rfl, h5⟩))))))
        by_cases h6 : size ≤ xa
        · go_wp2
          go_ret
          exact ⟨by rw [HG.out]; rfl, HB.out⟩
        · have hq : (xt != 0) = true := by simp; omega
          go_wp2_with fail
          go_ret
          exact ⟨by rw [HG.out]; rfl, HB.out⟩
      have HOne : Hid (Wd.oneE size ⟨xa, xd, xt⟩ = true) := (Wd.oneE_iff _ _).2 ⟨by show 0 ≤ xa; omega, by show xa ≤ size; omega, by show 0 ≤ xt; omega, by show xt ≤ 15; omega, fun hd => by
        simp only at hd
        rcases hone with ⟨_, h7, h8⟩ | h7
        · exact ⟨h7, h8⟩
        · rw [hd] at h7; cases h7⟩
      cases k with
      | zero =>
        have HN : Hid (Wd.may size (es.take (0 + 1)) = true) := may_take_first hj (by have h := HXk.out; rw [h]; exact HOne.out)
        clear HXk hj HBad
        simp only [Nat.zero_mul, Nat.add_zero] at hc0 hc1 hc2
        rcases hone with ⟨rfl, h7, rfl⟩ | rfl
        all_goals
          go_wp2_with fail
          go_quiet (fail)
          go_wp2_with fail
          go_roundw
          case rel => exact ⟨0 + 1, _, by omega, by go_num, rfl, HN.out⟩
          case measure => simp [intOf]; omega
      | succ m =>
        have hj' : m < es.length := by omega
        obtain ⟨b', off', hA', _, hp0, hp1, hp2⟩ := HA.out.edit hj'
        injection hA' with hA'
        injection hA' with e1 e2
        subst e1 e2
        have HBad2 := Lib.hid (fun h => may_take_next (size := size) hj h)
        have HMore := Lib.hid (fun h h' => may_take_more (size := size) hj HM.out h h')
        have hxk := HXk.out
        generalize hy : es[m] = y at hp0 hp1 hp2 HBad2 HMore
        unfold Hid at HBad2 HMore
        rw [hxk] at HBad2 HMore
        have HBad2 := Lib.hid HBad2
        have HMore := Lib.hid HMore
        clear hy hxk HXk hj hj' HBad
        obtain ⟨ya, yd, yt⟩ := y
        simp only at hp0 hp1 hp2
        by_cases g1 : xa < ya
        · have HG := Lib.hid (HBad2.out (next_no (.inl g1)))
          rcases hone with ⟨rfl, h7, rfl⟩ | rfl
          all_goals
            go_wp2_with fail
            go_quiet (fail)
            go_wp2_with fail
            go_ret
            exact ⟨by rw [HG.out]; rfl, (HB.out.drewN _)⟩
        have hd1 : decide (xa < ya) = false := by simpa using g1
        cases yd with
        | true =>
          by_cases g2 : xa = ya
          · have HG := Lib.hid (HBad2.out (next_no (.inr ⟨rfl, g2⟩)))
            have hq2 : (xa == ya) = true := by simpa using g2
            rcases hone with ⟨rfl, h7, rfl⟩ | rfl
            all_goals
              go_wp2_with fail
              go_quiet (fail)
              go_wp2_with fail
              go_ret
              exact ⟨by rw [HG.out]; rfl, (HB.out.drewN _)⟩
          · have HN := Lib.hid (HMore.out HOne.out (next_yes (by omega) fun _ h => g2 h.symm))
            have hq2 : (xa == ya) = false := by simpa using g2
            rcases hone with ⟨rfl, h7, rfl⟩ | rfl
            all_goals
              go_wp2_with fail
              go_quiet (fail)
              go_wp2_with fail
              go_roundw
              case rel => exact ⟨m + 1 + 1, _, by omega, by go_num, rfl, HN.out⟩
              case measure => simp [intOf]; omega
        | false =>
          have HN := Lib.hid (HMore.out HOne.out (next_yes (by omega) fun h => by cases h))
          rcases hone with ⟨rfl, h7, rfl⟩ | rfl
          all_goals
            go_wp2_with fail
            go_quiet (fail)
            go_wp2_with fail
            go_roundw
            case rel => exact ⟨m + 1 + 1, _, by omega, by go_num, rfl, HN.out⟩
            case measure => simp [intOf]; omega
    · go_wp2
      go_ret
      have hg : Wd.may size es = true := by
        have h := HM.out
        rw [List.take_of_length_le (by have := HL.out; omega)] at h
        exact h
      exact ⟨by rw [hg]; rfl, HB.out⟩
end Go.Proofs.Ytmegpmkjhbihaaa
