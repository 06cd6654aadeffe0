/- tree.isOf: is a number that of a production of a nonterminal? -/
import Derived.Test.YtmdepbgcgkifpaaRows
import Derived.Test.YtmdepbgcgkifpaaGMem
import Derived.RegionTactic
namespace Go.Proofs.Ytmdepbgcgkifpaa
open Go.RowKit

/-- A production of a nonterminal. -/
def isOfB (ps : List Gr.Pr) (i y : Int) : Bool := decide (0 ≤ i ∧ ∃ p, ps[i.toNat]? = some p ∧ p.left = y)
set_option maxRecDepth 100000 in
set_option maxHeartbeats 1000000 in
theorem isof_any (t n s : Int) (A : Option Addr) (len c : Nat) (ps : List Gr.Pr) (i y : Int) (w : World) (B : Nat) (hlen : len = ps.length) (hr : Prs w B A ps) :
    Calls Try.prog 26 #[.agg #[.int .i64 t, .int .i64 n, .int .i64 s, .slice A len c], .int .i64 i, .int .i64 y] w fun e w' => e = .returned (.bool (isOfB ps i y)) ∧ Bl w w' := by
  have HL := Lib.hid hlen; clear hlen
  have hb1 : Bl w (w.alloc (.cells #[.int .i64 t, .int .i64 n, .int .i64 s, .slice A len c] 24)) := (Bl.refl w).alloc _
  have HB1 := Lib.hid hb1
  have HG1 : Hid (Bk (w.alloc (.cells #[.int .i64 t, .int .i64 n, .int .i64 s, .slice A len c] 24)) w.heap.size 24 #[.int .i64 t, .int .i64 n, .int .i64 s, .slice A len c]) := Bk.new w _ _
  by_cases h0 : i < 0
  · have HX : Hid (isOfB ps i y = false) := decide_eq_false fun h => by omega
    have hd : decide (0 ≤ i) = false := decide_eq_false (by omega)
    clear hr
    go_enter Try.func26, Try.ntmps26
    go_wp2_with fail
    go_ret
    exact ⟨by rw [HX.out]; rfl, HB1.out⟩
  · obtain ⟨q, rfl⟩ : ∃ q : Nat, i = (q : Int) := ⟨i.toNat, by omega⟩
    have hd : decide (0 ≤ (q : Int)) = true := decide_eq_true (by omega)
    by_cases h1 : q < len
    · obtain ⟨b, off, Ax, cx, rfl, hbB, hrx, hc0, hc1⟩ := hr.at_ (i := q) (by rw [← HL.out]; exact h1)
      have hx : ps[q]? = some (ps[q]'(by rw [← HL.out]; exact h1)) := List.getElem?_eq_getElem (by rw [← HL.out]; exact h1)
      have hX : isOfB ps q y = ((ps[q]'(by rw [← HL.out]; exact h1)).left == y) := by
        unfold isOfB
        rw [Int.toNat_natCast, hx]
        by_cases e : (ps[q]'(by rw [← HL.out]; exact h1)).left = y
        · rw [decide_eq_true ⟨by omega, _, rfl, e⟩]; simp [e]
        · rw [decide_eq_false (fun h => by obtain ⟨_, p, hp, hl⟩ := h; cases hp; exact e hl)]; simp [e]
      have HX := Lib.hid hX; clear hX
      have h2 : (q : Int) < (len : Int) := by omega
      have h3 : (0 : Int) ≤ (q : Int) := by omega
      have hc : (w.alloc (.cells #[.int .i64 t, .int .i64 n, .int .i64 s, .slice (some ⟨b, off, none⟩) len c] 24)).cell? ⟨b, off + q * 2, none⟩ = some (.int .i64 (ps[q]'(by rw [← HL.out]; exact h1)).left) := (Below.cell hb1 (World.block_lt_of_cell? _ _ hc0)).trans hc0
      generalize (ps[q]'(by rw [← HL.out]; exact h1)).left = z at *
      have hbl := World.block_lt_of_cell? _ _ hc0
      clear hr hrx hc1 hx
      go_enter Try.func26, Try.ntmps26
      go_wp2_with fail
      go_ret
      exact ⟨by rw [HX.out]; rfl, HB1.out⟩
    · have HX : Hid (isOfB ps q y = false) := decide_eq_false fun h => by
        obtain ⟨_, p, hp, _⟩ := h
        rw [Int.toNat_natCast, List.getElem?_eq_none (by rw [← HL.out]; omega)] at hp
        cases hp
      have h2 : decide ((q : Int) < (len : Int)) = false := decide_eq_false (by omega)
      clear hr
      go_enter Try.func26, Try.ntmps26
      go_wp2_with fail
      go_ret
      exact ⟨by rw [HX.out]; rfl, HB1.out⟩
end Go.Proofs.Ytmdepbgcgkifpaa
