/- The reference's token (layer 8): which part of a word is just one token. -/
import Derived.Test.YtckckejgocbkkaaTabS
import Derived.RegionTactic
import Derived.Deep.RegionLaw
namespace Go.Proofs.Ytckckejgocbkkaa
open Go.RowKit

def tok (xs : List Int) (t : Int) (a b : Nat) : Bool := decide (xs[a]? = some t ∧ b = a + 1)
def tokTo (xs : List Int) (t : Int) (k : Nat) : Nat → Nat → Nat → Bool := fun n a b => decide (n = 0 ∧ a < k) && tok xs t a b
theorem tokTo_zero (xs : List Int) (t : Int) : tokTo xs t 0 = fun _ _ _ => false := by
  funext n a b
  unfold tokTo
  rw [decide_eq_false (by omega)]
  rfl
theorem tokTo_end (xs : List Int) (t : Int) : tokTo xs t xs.length 0 = tok xs t := by
  funext a b
  unfold tokTo
  rcases Nat.lt_or_ge a xs.length with h | h
  · rw [decide_eq_true ⟨rfl, h⟩]; rfl
  · rw [decide_eq_false (by omega), Bool.false_and]
    unfold tok
    rw [List.getElem?_eq_none h]
    simp
theorem tokTo_succ {xs : List Int} {t : Int} {k : Nat} (h : k < xs.length) {x : Bool} (hx : x = decide (xs[k] = t)) : updT (tokTo xs t k) 0 k (k + 1) x = tokTo xs t (k + 1) := by
  funext n a b
  unfold updT
  split
  · rename_i e
    obtain ⟨rfl, rfl⟩ := e
    unfold upd tokTo tok
    rw [List.getElem?_eq_getElem h, hx]
    split
    · rename_i e; subst e; simp
    · rename_i e
      rw [decide_eq_false (by omega : ¬ (0 = 0 ∧ a < a)), Bool.false_and, decide_eq_false (p := some xs[a] = some t ∧ b = a + 1) (fun e2 => e e2.2), Bool.and_false]
  · rename_i e
    unfold tokTo
    congr 1
    apply decide_eq_decide.2
    omega

set_option maxRecDepth 100000 in
set_option maxHeartbeats 2000000 in
theorem token_any (A : Option Addr) (len c : Nat) (xs : List Int) (t : Int) (w : World) (B : Nat) (hlen : len = xs.length) (hmax : len ≤ 1000) (hr : Rd w B A (ins xs)) (hB : B ≤ w.heap.size) :
    Calls Try.prog 35 #[.slice A len c, .int .i64 t] w fun e w' => ∃ A' c', e = .returned (.slice A' (len + 1) c') ∧ Row2 w' (fun b => w.heap.size ≤ b ∧ b < w'.heap.size) (.slice A' (len + 1) c') (len + 1) (tok xs t) ∧ Bl w w' := by
  have HL := Lib.hid hlen; clear hlen
  have HR := Lib.hid hr; clear hr
  go_enter Try.func35, Try.ntmps35
  go_wp2_with fail
  refine (none_any 1 len w (by omega) hmax).mono ?_
  rintro e w1 ⟨A1, c1, rows, rfl, hrl, ht, hb1⟩
  obtain ⟨r, rfl⟩ := List.length_eq_one_iff.1 hrl
  have HT1 := Lib.hid ht; clear ht
  have HB1 := Lib.hid hb1; clear hb1
  obtain ⟨bo, co, g, hv, hbo, hcell, _⟩ := HT1.out.read (n := 0) (a := 0) (b := 0) (by simp) (by omega) (by omega)
  injection hv with hv1 hv2 hv3
  subst hv1 hv3
  simp only [List.getElem_cons_zero] at hcell
  clear hrl hv2
  go_wp2_with fail
  have HT2 := HT1.out
  rw [← tokTo_zero xs t] at HT2
  have HT3 := Lib.hid HT2; clear HT2 HT1
  clear hcell hbo
  go_loopw [6] (fun i wr => ∃ k : Nat, k ≤ len ∧ i = .int .i64 k ∧ Hid (Tab w.heap.size (len + 1) (.slice (some ⟨bo, 0, none⟩) 1 c1) [r] (tokTo xs t k) wr) ∧ Hid (Bl w wr)) (fun i _ => len - (intOf i).toNat)
  case atStart => exact ⟨0, Nat.zero_le _, rfl, HT3.out, HB1.out⟩
  case round =>
    obtain ⟨k, hk, rfl, HTk, HBk⟩ := hrel
    by_cases hlt : k < len
    · have hj : k < xs.length := by have := HL.out; omega
      have hszw : w.heap.size ≤ wr.heap.size := HBk.out.size
      obtain ⟨b, off, rfl, hb, hx⟩ := (HR.out.bl hB HBk.out).int hj
      obtain ⟨_, _, g, hv, _, _, hrl, hc1, hgl, hc2, hfz, hlow, _, hput⟩ := HTk.out.read (n := 0) (a := k) (b := k + 1) (by simp) (by omega) (by omega)
      have HPut := Lib.hid (fun x hx => (tokTo_succ (t := t) hj (x := x) hx) ▸ hput x)
      simp only [List.getElem_cons_zero] at hrl hc1
      have hbw : b < wr.heap.size := by omega
      have hk0 : (0 : Int) ≤ (k : Int) := by omega
      have hk1 : (k : Int) < (len : Int) := by omega
      have hk2 : (k : Int) < ((len + 1 : Nat) : Int) := by omega
      have hk3 : (k : Int) + 1 < ((len + 1 : Nat) : Int) := by omega
      have hwr : IntKind.i64.wrap ((k : Int) + 1) = (k : Int) + 1 := by simp [IntKind.wrap, IntKind.bits, IntKind.signed]; omega
      clear hput hv
      generalize xs[k] = x at *
      generalize tokTo xs t k 0 k (k + 1) = old at *
      clear hj
      go_wp2_with fail
      go_region
      go_wp2_with fail
      go_roundw
      case rel => exact ⟨k + 1, by omega, by go_num, (HPut.out (x == t) (by first | rfl | simp)).bl_ (Bl.refl _).drew, (Bl.fr HBk.out ((Fr.refl (fun k => k = g) wr).own _ _) (fun i hi e => by omega)).drew⟩
      case measure => simp [intOf]; omega
    · have hkl : k = xs.length := by have := HL.out; omega
      have hx := HTk.out.row2 (n := 0) (by simp)
      rw [hkl, tokTo_end] at hx
      have HX := Lib.hid hx; clear hx
      go_wp2_with fail
      go_ret
      exact ⟨_, _, rfl, HX.out, HBk.out⟩
end Go.Proofs.Ytckckejgocbkkaa
