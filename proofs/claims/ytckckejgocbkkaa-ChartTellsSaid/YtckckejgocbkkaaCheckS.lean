/- What Check is to tell of any grammar. -/
import Derived.Test.YtckckejgocbkkaaPlainS
import Derived.Test.YtckckejgocbkkaaFactS
import Derived.Test.YtckckejgocbkkaaPrC
namespace Go.Proofs.Ytckckejgocbkkaa

/-- What is told of any grammar: the nonterminal, and why. -/
def chkOf (g : Gr.Gm) : Nat × Nat := if okB g then Sd.faultOf g else (0, 1)
theorem chkOf_no {g : Gr.Gm} (h : okB g = false) : chkOf g = (0, 1) := by unfold chkOf; rw [if_neg (by rw [h]; decide)]
theorem chkOf_ok {g : Gr.Gm} (h : okB g = true) : chkOf g = Sd.faultOf g := by unfold chkOf; rw [if_pos h]
end Go.Proofs.Ytckckejgocbkkaa
/- What sound.Check must tell; literals in memory; a grammar written out. -/
namespace Go.Proofs.Ytckckejgocbkkaa
open Go.RowKit

/-- What Check must tell. -/
abbrev SoundC : Prop := ∀ (t n s : Int) (A : Option Addr) (len c : Nat) (ps : List Gr.Pr) (w : World) (B : Nat), len = ps.length → len ≤ 9223372036854775807 → PrsC w B A ps → B ≤ w.heap.size →
  Calls Try.prog 20 #[.agg #[.int .i64 t, .int .i64 n, .int .i64 s, .slice A len c]] w fun e w' =>
    e = .returned (.tuple #[.int .i64 (chkOf ⟨t, n, s, ps⟩).1, .int .i64 (chkOf ⟨t, n, s, ps⟩).2]) ∧ Bl w w'
theorem rd_bl_lit (w : World) (cs : Array Value) (t : TypeId) (xs : List Value) {W : World} (hb : Bl (w.alloc (.cells cs t)) W) (h : cs.toList = xs) {g : Nat} (hg : g = w.heap.size) : Rd W W.heap.size (some ⟨g, 0, none⟩) xs :=
  rd_on (rd_lit w cs t xs g _ hg (by rw [hg]; simp) h) hb
def ps14b : List Gr.Pr := [⟨0, [⟨false, 0⟩, ⟨true, 0⟩]⟩, ⟨0, []⟩]
theorem prs14b (w : World) : PrsC ((w.alloc (.cells #[.bool false, .int .i64 0, .bool true, .int .i64 0] 48)).alloc (.cells #[.int .i64 0, .slice (some ⟨w.heap.size, 0, none⟩) 2 2, .int .i64 0, .slice none 0 0] 45))
    ((w.alloc (.cells #[.bool false, .int .i64 0, .bool true, .int .i64 0] 48)).alloc (.cells #[.int .i64 0, .slice (some ⟨w.heap.size, 0, none⟩) 2 2, .int .i64 0, .slice none 0 0] 45)).heap.size (some ⟨w.heap.size + 1, 0, none⟩) ps14b := by
  refine ⟨[⟨0, [⟨false, 0⟩, ⟨true, 0⟩], some ⟨w.heap.size, 0, none⟩, 2⟩, ⟨0, [], none, 0⟩], rfl, rd_bl_lit _ _ _ _ (Bl.refl _) rfl (by simp), ?_⟩
  intro h hh
  simp only [List.mem_cons, List.not_mem_nil, or_false] at hh
  rcases hh with rfl | rfl
  · exact ⟨rd_bl_lit w _ _ _ ((Bl.refl _).alloc _) rfl rfl, (show (2 : Nat) ≤ 2 from Nat.le_refl _), (show (2 : Nat) ≤ maxLen by simp only [maxLen]; omega)⟩
  · exact ⟨Rd.nil, Nat.le_refl _, Nat.zero_le _⟩
end Go.Proofs.Ytckckejgocbkkaa
