/- Things: how they lie in memory; large. -/
import Derived.Test.YthhlgjedgbdgcaaWRef2
namespace Go.Proofs.Ythhlgjedgbdgcaa
open Go.RowKit

/-- A thing: its kind, a number, numbers, and what goes wrong. -/
structure Tg where
  kind : Int
  n : Int
  l : List Int
  e : Int

/-- The cells of a thing whose numbers lie at A. -/
def Tg.cells (x : Tg) (A : Option Addr) (c : Nat) : Array Value := #[.int .i64 x.kind, .int .i64 x.n, .slice A x.l.length c, .int .i64 x.e]
/-- The slice at A reads as these things, all below block B. -/
def Tgs (w : World) (B : Nat) (A : Option Addr) (ts : List Tg) : Prop :=
  0 < ts.length → ∃ b off, A = some ⟨b, off, none⟩ ∧ b < B ∧ ∀ i x, ts[i]? = some x → ∃ Ax c, Rd w B Ax (ins x.l) ∧
    w.cell? ⟨b, off + i * 4, none⟩ = some (.int .i64 x.kind) ∧ w.cell? ⟨b, off + i * 4 + 1, none⟩ = some (.int .i64 x.n) ∧ w.cell? ⟨b, off + i * 4 + 2, none⟩ = some (.slice Ax x.l.length c) ∧ w.cell? ⟨b, off + i * 4 + 3, none⟩ = some (.int .i64 x.e)

section
variable {w w' : World} {B : Nat} {A : Option Addr} {ts : List Tg}
theorem Tgs.below (h : Tgs w B A ts) (hb : Below B w w') : Tgs w' B A ts := fun hn => by
  obtain ⟨b, off, e, hlt, hx⟩ := h hn
  refine ⟨b, off, e, hlt, fun i x hi => ?_⟩
  obtain ⟨Ax, c, h1, h2, h3, h4, h5⟩ := hx i x hi
  exact ⟨Ax, c, h1.below hb, (hb.cell (p := ⟨b, _, none⟩) hlt).trans h2, (hb.cell (p := ⟨b, _, none⟩) hlt).trans h3, (hb.cell (p := ⟨b, _, none⟩) hlt).trans h4, (hb.cell (p := ⟨b, _, none⟩) hlt).trans h5⟩
theorem Tgs.at_ (h : Tgs w B A ts) {i : Nat} (hi : i < ts.length) : ∃ b off Ax c, A = some ⟨b, off, none⟩ ∧ b < B ∧ Rd w B Ax (ins ts[i].l) ∧
    w.cell? ⟨b, off + i * 4, none⟩ = some (.int .i64 ts[i].kind) ∧ w.cell? ⟨b, off + i * 4 + 1, none⟩ = some (.int .i64 ts[i].n) ∧ w.cell? ⟨b, off + i * 4 + 2, none⟩ = some (.slice Ax ts[i].l.length c) ∧ w.cell? ⟨b, off + i * 4 + 3, none⟩ = some (.int .i64 ts[i].e) := by
  obtain ⟨b, off, e, hb, hx⟩ := h (by omega)
  obtain ⟨Ax, c, hx⟩ := hx i _ (List.getElem?_eq_getElem hi)
  exact ⟨b, off, Ax, c, e, hb, hx⟩
end
theorem Bl.below {w w' : World} {B : Nat} (h : Bl w w') (hB : B ≤ w.heap.size) : Below B w w' := Below.mono h hB
theorem Fr.below {S : Nat → Prop} {w w' : World} {B : Nat} (h : Fr S w w') (hB : B ≤ w.heap.size) (hS : ∀ k, S k → B ≤ k) : Below B w w' :=
  ⟨h.os, h.tape, h.output, h.size, fun k hk => h.block k (by omega) fun hs => absurd (hS k hs) (by omega)⟩

/-- Is a thing one that is looked at? -/
def fineB (x : Tg) : Bool := decide (0 ≤ x.n) && decide (x.l.length ≤ 40) && x.l.all fun n => decide (0 ≤ n)
/-- Are things more, or less, than are looked at? -/
def lg (ts : List Tg) : Bool := !(decide (ts.length ≤ 40) && ts.all fineB)
theorem fineB_iff (x : Tg) : fineB x = true ↔ 0 ≤ x.n ∧ x.l.length ≤ 40 ∧ ∀ n ∈ x.l, 0 ≤ n := by
  unfold fineB; simp [and_assoc]
theorem lg_false {ts : List Tg} (h : lg ts = false) : ts.length ≤ 40 ∧ ∀ x ∈ ts, 0 ≤ x.n ∧ x.l.length ≤ 40 ∧ ∀ n ∈ x.l, 0 ≤ n := by
  unfold lg at h
  simp only [Bool.not_eq_false', Bool.and_eq_true, decide_eq_true_eq, List.all_eq_true] at h
  exact ⟨h.1, fun x hx => (fineB_iff x).1 (h.2 x hx)⟩
theorem lg_of {ts : List Tg} (h : ts.length ≤ 40) (hx : ∀ x ∈ ts, fineB x = true) : lg ts = false := by
  unfold lg
  simp only [Bool.not_eq_false', Bool.and_eq_true, decide_eq_true_eq, List.all_eq_true]
  exact ⟨h, hx⟩
theorem lg_long {ts : List Tg} (h : 40 < ts.length) : lg ts = true := by
  unfold lg; rw [decide_eq_false (by omega)]; rfl
theorem lg_one {ts : List Tg} {k : Nat} (h : k < ts.length) (hx : fineB ts[k] = false) : lg ts = true := by
  cases hl : lg ts with
  | true => rfl
  | false =>
    have := (fineB_iff _).2 ((lg_false hl).2 _ (List.getElem_mem h))
    rw [hx] at this; cases this
theorem fine_snoc {ts : List Tg} {k : Nat} (h : k < ts.length) (ha : ∀ x ∈ ts.take k, fineB x = true) (hx : fineB ts[k] = true) : ∀ x ∈ ts.take (k + 1), fineB x = true := by
  intro x hm
  rw [List.take_succ_eq_append_getElem h] at hm
  rcases List.mem_append.1 hm with h1 | h1
  · exact ha x h1
  · simp at h1; rw [h1]; exact hx
theorem pos_snoc {l : List Int} {k : Nat} (h : k < l.length) (ha : ∀ x ∈ l.take k, 0 ≤ x) (hx : 0 ≤ l[k]) : ∀ x ∈ l.take (k + 1), 0 ≤ x := by
  intro x hm
  rw [List.take_succ_eq_append_getElem h] at hm
  rcases List.mem_append.1 hm with h1 | h1
  · exact ha x h1
  · simp at h1; rw [h1]; exact hx

set_option maxRecDepth 100000 in
set_option maxHeartbeats 1000000 in
theorem large_any (A : Option Addr) (len cap : Nat) (ts : List Tg) (w : World) (B : Nat) (hlen : len = ts.length) (hmax : len ≤ 9223372036854775807) (hr : Tgs w B A ts) (hB : B ≤ w.heap.size) :
    Calls Try.prog 8 #[.slice A len cap] w fun e w' => e = .returned (.bool (lg ts)) ∧ Bl w w' := by
  have HL := Lib.hid hlen; clear hlen
  have HA := Lib.hid hr; clear hr
  by_cases h40 : 40 < len
  · have HG : Hid (lg ts = true) := lg_long (by rw [← HL.out]; exact h40)
    go_enter Try.func8, Try.ntmps8
    go_wp2_with fail
    go_ret
    exact ⟨by rw [HG.out]; rfl, Bl.refl w⟩
  · go_enter Try.func8, Try.ntmps8
    go_wp2_with fail
    go_loopw [12] (fun i wr => ∃ k : Nat, k ≤ len ∧ i = .int .i64 k ∧ Hid (∀ x ∈ ts.take k, fineB x = true) ∧ Hid (Bl w wr)) (fun i _ => len - (intOf i).toNat)
    case atStart => exact ⟨0, Nat.zero_le _, rfl, by simp [Hid], Bl.refl w⟩
    case round =>
      obtain ⟨k, hk, rfl, HF, HB⟩ := hrel
      by_cases hlt : k < len
      · have hj : k < ts.length := by have := HL.out; omega
        obtain ⟨b, off, Ax, c, rfl, hbB, hrx, hc0, hc1, hc2, hc3⟩ := (HA.out.below (HB.out.below hB)).at_ hj
        have HRX : Hid (∀ o, Rd (wr.alloc o) B Ax (ins ts[k].l)) := fun o => hrx.alloc (Nat.le_trans hB HB.out.size) o
        have HBad := Lib.hid (lg_one hj)
        have HGood := Lib.hid (fine_snoc hj HF.out)
        have HIff := Lib.hid (fineB_iff ts[k])
        generalize ts[k] = x at *
        obtain ⟨xk, xn, xl, xe⟩ := x
        simp only at hc0 hc1 hc2 hc3
        clear hrx hj
        by_cases hn : xn < 0
        · go_wp2_with fail
          go_ret
          have hg : lg ts = true := HBad.out (by rw [Bool.eq_false_iff]; intro h; have := ((HIff.out.1 h).1 : 0 ≤ xn); omega)
          exact ⟨by rw [hg]; rfl, HB.out.alloc _⟩
        · by_cases hl4 : 40 < xl.length
          · go_wp2_with fail
            go_ret
            have hg : lg ts = true := HBad.out (by rw [Bool.eq_false_iff]; intro h; have := ((HIff.out.1 h).2.1 : xl.length ≤ 40); omega)
            exact ⟨by rw [hg]; rfl, HB.out.alloc _⟩
          · go_wp2_with fail
            go_loop [28] (fun i => ∃ j : Nat, j ≤ xl.length ∧ i = .int .i64 j ∧ Hid (∀ n ∈ xl.take j, 0 ≤ n)) (fun i => xl.length - (intOf i).toNat)
            case atStart => exact ⟨0, Nat.zero_le _, rfl, by simp [Hid]⟩
            case round =>
              obtain ⟨j, hjl, rfl, HP⟩ := hrel
              by_cases hlt2 : j < xl.length
              · obtain ⟨bx, ox, rfl, _, hcx⟩ := (HRX.out (.cells #[.int .i64 xk, .int .i64 xn, .slice Ax xl.length c, .int .i64 xe] 32)).int hlt2
                have HS := Lib.hid (pos_snoc hlt2 HP.out)
                have HM := Lib.hid (List.getElem_mem hlt2)
                generalize xl[j] = n at *
                by_cases hn2 : n < 0
                · go_wp2_with fail
                  go_ret
                  have hg : lg ts = true := HBad.out (by rw [Bool.eq_false_iff]; intro h; have := (HIff.out.1 h).2.2 n HM.out; omega)
                  exact ⟨by rw [hg]; rfl, HB.out.alloc _⟩
                · go_wp2_with fail
                  go_round
                  case rel => exact ⟨j + 1, by omega, by go_num, HS.out (by omega)⟩
                  case measure => simp [intOf]; omega
              · have HP2 : Hid (fineB ⟨xk, xn, xl, xe⟩ = true) := HIff.out.2 ⟨by show 0 ≤ xn; omega, by show xl.length ≤ 40; omega, by have h := HP.out; rw [List.take_of_length_le (by omega)] at h; exact h⟩
                go_wp2_with fail
                go_roundw
                case rel => exact ⟨k + 1, by omega, by go_num, HGood.out HP2.out, HB.out.alloc _⟩
                case measure => simp [intOf]; omega
      · go_wp2_with fail
        go_ret
        have hg : lg ts = false := lg_of (by have := HL.out; omega) (by have h := HF.out; rw [List.take_of_length_le (by have := HL.out; omega)] at h; exact h)
        exact ⟨by rw [hg]; rfl, HB.out⟩
end Go.Proofs.Ythhlgjedgbdgcaa
