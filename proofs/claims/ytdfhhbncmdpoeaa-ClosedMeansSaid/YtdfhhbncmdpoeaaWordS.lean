/- Edits: how they lie in memory. -/
import Derived.Test.YtdfhhbncmdpoeaaRows
import Derived.Test.YtdfhhbncmdpoeaaBaseS
import Derived.Test.YtdfhhbncmdpoeaaPlainS
import Derived.Test.YtdfhhbncmdpoeaaFactM
import Derived.BigQuiet
namespace Go.Proofs.Ytdfhhbncmdpoeaa
open Go.RowKit

/-- Edits as cells. -/
def edCells (e : Wd.Ed) : List Value := [.int .i64 e.at_, .bool e.drop, .int .i64 e.tok]
def edRow (l : List Wd.Ed) : List Value := rowN edCells l
theorem edCells_len (e : Wd.Ed) : (edCells e).length = 3 := rfl
theorem edRow_len (l : List Wd.Ed) : (edRow l).length = l.length * 3 := rowN_len edCells_len l
theorem edRow_snoc (a : List Wd.Ed) (e : Wd.Ed) : edRow (a ++ [e]) = edRow a ++ [.int .i64 e.at_, .bool e.drop, .int .i64 e.tok] := rowN_snoc a e
theorem edRow_one (l : List Wd.Ed) : ∀ u ∈ edRow l, u.oneCell' = true := rowN_one (fun x u hu => by
  simp only [edCells, List.mem_cons, List.not_mem_nil, or_false] at hu
  rcases hu with rfl | rfl | rfl <;> rfl) l
theorem Rd.edit {w : World} {B : Nat} {A : Option Addr} {l : List Wd.Ed} (h : Rd w B A (edRow l)) {i : Nat} (hi : i < l.length) :
    ∃ b off, A = some ⟨b, off, none⟩ ∧ b < B ∧ w.cell? ⟨b, off + i * 3, none⟩ = some (.int .i64 l[i].at_) ∧ w.cell? ⟨b, off + i * 3 + 1, none⟩ = some (.bool l[i].drop) ∧ w.cell? ⟨b, off + i * 3 + 2, none⟩ = some (.int .i64 l[i].tok) := by
  obtain ⟨b, off, e, hb, hc⟩ := Rd.thing (f := edCells) (m := 3) edCells_len (by decide) h hi
  exact ⟨b, off, e, hb, hc 0 _ rfl, hc 1 _ rfl, hc 2 _ rfl⟩
end Go.Proofs.Ytdfhhbncmdpoeaa
/- Whether a word may be, and fits: plain.  -/
namespace Go.Proofs.Ytdfhhbncmdpoeaa
open Go.RowKit

theorem okT_below (t : Int) : Wd.okT t = belowB t 16 := by
  rw [Bool.eq_iff_iff, Wd.okT_iff, belowB_iff]; omega
theorem okW_all {xs : List Int} (h : xs.length ≤ 24) : Wd.okW xs = xs.all fun t => belowB t 16 := by
  unfold Wd.okW
  rw [decide_eq_true h, Bool.true_and]
  exact congrArg (fun f => xs.all f) (funext okT_below)
theorem fits_all {n : Int} {xs : List Int} (h : Wd.okW xs = true) : Wd.fits n xs = xs.all fun t => belowB t n := by
  have hx := ((Wd.okW_iff xs).1 h).2
  rw [Bool.eq_iff_iff, Wd.fits_iff, List.all_eq_true]
  constructor
  · intro ⟨_, h2⟩ t ht
    exact (belowB_iff _ _).2 ⟨(hx t ht).1, h2 t ht⟩
  · intro h2
    exact ⟨h, fun t ht => ((belowB_iff _ _).1 (h2 t ht)).2⟩
theorem fits_no {n : Int} {xs : List Int} (h : Wd.okW xs = false) : Wd.fits n xs = false := by unfold Wd.fits; rw [h]; rfl
theorem all_no {xs : List Int} {f : Int → Bool} {k : Nat} (hk : k < xs.length) (h : f xs[k] = false) : xs.all f = false := by
  rw [Bool.eq_false_iff]
  intro e
  have := List.all_eq_true.1 e _ (List.getElem_mem hk)
  rw [h] at this; cases this
theorem all_yes {xs : List Int} {f : Int → Bool} (h : ∀ x ∈ xs.take xs.length, f x = true) : xs.all f = true := by
  rw [List.take_length] at h
  exact List.all_eq_true.2 h
end Go.Proofs.Ytdfhhbncmdpoeaa
/- The reference's Right and Fits of words. -/
namespace Go.Proofs.Ytdfhhbncmdpoeaa
open Go.RowKit

set_option maxRecDepth 100000 in
set_option maxHeartbeats 400000 in
theorem rdright_any (A : Option Addr) (len cap : Nat) (xs : List Int) (w : World) (B : Nat) (hlen : len = xs.length) (hmax : len ≤ 9223372036854775807) (hr : Rd w B A (ins xs)) :
    Calls Try.prog 31 #[.slice A len cap] w fun e w' => e = .returned (.bool (Wd.okW xs)) ∧ w = w' := by
  have HL := Lib.hid hlen; clear hlen
  have HA := Lib.hid hr; clear hr
  by_cases h24 : 24 < len
  · have HG : Hid (Wd.okW xs = false) := Wd.okW_long (by have := HL.out; omega)
    go_enter Try.func31, Try.ntmps31
    go_wp2_with fail
    go_ret
    exact ⟨by rw [HG.out]; rfl, rfl⟩
  · go_enter Try.func31, Try.ntmps31
    go_wp2_with fail
    go_loopw [3] (fun i wr => ∃ k : Nat, k ≤ len ∧ i = .int .i64 k ∧ wr = w ∧ Hid (∀ x ∈ xs.take k, Wd.okT x = true)) (fun i _ => len - (intOf i).toNat)
    case atStart => exact ⟨0, Nat.zero_le _, rfl, rfl, by simp [Hid]⟩
    case round =>
      obtain ⟨k, hk, rfl, rfl, HF⟩ := hrel
      by_cases hlt : k < len
      · have hj : k < xs.length := by have := HL.out; omega
        obtain ⟨b, off, rfl, _, hcell⟩ := HA.out.int hj
        have HBad := Lib.hid (fun h => Wd.okW_one hj h)
        have HGood := Lib.hid (all_snoc (P := fun t => Wd.okT t = true) hj HF.out)
        generalize xs[k] = x at hcell HBad HGood
        clear hj
        by_cases h1 : x < 0
        · have HG := Lib.hid (HBad.out (by rw [okT_below]; exact belowB_no (.inl h1)))
          go_wp2_with fail
          go_ret
          exact ⟨by rw [HG.out]; rfl, rfl⟩
        by_cases h2 : 15 < x
        · have HG := Lib.hid (HBad.out (by rw [okT_below]; exact belowB_no (.inr (by omega))))
          go_wp2_with fail
          go_ret
          exact ⟨by rw [HG.out]; rfl, rfl⟩
        have HX := Lib.hid (HGood.out ((Wd.okT_iff x).2 ⟨by omega, by omega⟩))
        go_wp2_with fail
        go_roundw
        case rel => exact ⟨k + 1, by omega, by go_num, by trivial, HX.out⟩
        case measure => simp [intOf]; omega
      · go_wp2_with fail
        go_ret
        have hg : Wd.okW xs = true := Wd.okW_of (by have := HL.out; omega) (by
          have h := HF.out
          rw [List.take_of_length_le (by have := HL.out; omega)] at h
          exact h)
        exact ⟨by rw [hg]; rfl, rfl⟩

set_option maxRecDepth 100000 in
set_option maxHeartbeats 400000 in
theorem rdfits_any (t n s : Int) (Ag : Option Addr) (lg cg : Nat) (A : Option Addr) (len cap : Nat) (xs : List Int) (w : World) (B : Nat) (hlen : len = xs.length) (hmax : len ≤ 9223372036854775807) (hr : Rd w B A (ins xs)) (hB : B ≤ w.heap.size) :
    Calls Try.prog 12 #[.agg #[.int .i64 t, .int .i64 n, .int .i64 s, .slice Ag lg cg], .slice A len cap] w fun e w' => e = .returned (.bool (Wd.fits t xs)) ∧ Bl w w' := by
  have HL := Lib.hid hlen; clear hlen
  have HA := Lib.hid (hr.alloc hB (.cells #[.int .i64 t, .int .i64 n, .int .i64 s, .slice Ag lg cg] 24)); clear hr
  have HB0 : Hid (Bl w (w.alloc (.cells #[.int .i64 t, .int .i64 n, .int .i64 s, .slice Ag lg cg] 24))) := (Bl.refl w).alloc _
  have HK0 := Lib.hid (Bk.new w 24 #[.int .i64 t, .int .i64 n, .int .i64 s, .slice Ag lg cg])
  cases ho : Wd.okW xs with
  | true =>
    have HO := Lib.hid ho
    have HG : Hid (Wd.fits t xs = xs.all fun x => belowB x t) := fits_all ho
    have HN : Hid (∀ x ∈ xs, 0 ≤ x) := fun x hx => (((Wd.okW_iff xs).1 ho).2 x hx).1
    clear ho
    go_enter Try.func12, Try.ntmps12
    go_wp2_with fail
    refine (rdright_any A len cap xs _ B HL.out hmax HA.out).mono ?_
    rintro e w' ⟨rfl, rfl⟩
    rw [HO.out]
    go_wp2_with fail
    generalize hw0 : w.alloc (.cells #[.int .i64 t, .int .i64 n, .int .i64 s, .slice Ag lg cg] 24) = w0 at HB0 HK0 HA ⊢
    have HW0 := Lib.hid hw0; clear hw0
    go_loopw [5] (fun i wr => ∃ (k q : Nat), k ≤ len ∧ i = .int .i64 k ∧ wr = w0.drewN q ∧ Hid (∀ x ∈ xs.take k, belowB x t = true)) (fun i _ => len - (intOf i).toNat)
    case atStart => exact ⟨0, 0, Nat.zero_le _, rfl, rfl, by simp [Hid]⟩
    case round =>
      obtain ⟨k, q, hk, rfl, rfl, HF⟩ := hrel
      have k0 : w0.cell? ⟨w.heap.size, 0, none⟩ = some (.int .i64 t) := HK0.out.cell 0
      by_cases hlt : k < len
      · have hj : k < xs.length := by have := HL.out; omega
        obtain ⟨b, off, rfl, _, hcell⟩ := HA.out.int hj
        have HBad := Lib.hid (fun h => all_no (f := fun x => belowB x t) hj h)
        have HGood := Lib.hid (all_snoc (P := fun x => belowB x t = true) hj HF.out)
        have hx0 := HN.out _ (List.getElem_mem hj)
        generalize xs[k] = x at hcell HBad HGood hx0
        clear hj
        by_cases h1 : t ≤ x
        · have HG' := Lib.hid (HBad.out (belowB_no (.inr h1)))
          go_wp2
          go_quiet (fail)
          go_wp2
          go_ret
          exact ⟨by rw [HG.out, HG'.out]; rfl, ((HB0.out.drewN _).drewN _)⟩
        · have HX := Lib.hid (HGood.out ((belowB_iff x t).2 ⟨hx0, by omega⟩))
          go_wp2
          go_quiet (fail)
          go_wp2
          go_roundw
          case rel => exact ⟨k + 1, _, by omega, by go_num, by trivial, HX.out⟩
          case measure => simp [intOf]; omega
      · go_wp2
        go_ret
        have hg : (xs.all fun x => belowB x t) = true := all_yes (by
          have h := HF.out
          rw [show k = xs.length by have := HL.out; omega] at h
          exact h)
        exact ⟨by rw [HG.out, hg]; rfl, (HB0.out.drewN _)⟩
  | false =>
    have HO := Lib.hid ho
    have HG : Hid (Wd.fits t xs = false) := fits_no ho
    clear ho
    go_enter Try.func12, Try.ntmps12
    go_wp2_with fail
    refine (rdright_any A len cap xs _ B HL.out hmax HA.out).mono ?_
    rintro e w' ⟨rfl, rfl⟩
    rw [HO.out]
    go_wp2_with fail
    go_ret
    exact ⟨by rw [HG.out]; rfl, HB0.out⟩
end Go.Proofs.Ytdfhhbncmdpoeaa
