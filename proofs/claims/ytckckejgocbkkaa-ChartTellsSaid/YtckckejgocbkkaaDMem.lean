/- Edits: how they lie in memory. -/
import Derived.Test.YtckckejgocbkkaaRows
import Derived.Test.YtckckejgocbkkaaDRow
import Derived.Test.YtckckejgocbkkaaPlainS
namespace Go.Proofs.Ytckckejgocbkkaa
open Go.RowKit

/-- Edits as cells. -/
def edCells (e : Wd.Ed) : List Value := [.int .i64 e.at_, .bool e.drop, .int .i64 e.tok]
def edRow (l : List Wd.Ed) : List Value := rowN edCells l
theorem edCells_len (e : Wd.Ed) : (edCells e).length = 3 := rfl
theorem edRow_len (l : List Wd.Ed) : (edRow l).length = l.length * 3 := rowN_len edCells_len l
theorem edRow_snoc (a : List Wd.Ed) (e : Wd.Ed) : edRow (a ++ [e]) = edRow a ++ [.int .i64 e.at_, .bool e.drop, .int .i64 e.tok] := rowN_snoc a e
theorem edRow_one (l : List Wd.Ed) : ∀ u ∈ edRow l, u.oneCell' = true := rowN_one (fun x u hu => by
  simp only [edCells, List.mem_cons, List.not_mem_nil, or_false] at hu
  rcases hu with rfl | rfl | rfl <;> rfl) l
theorem Rd.edit {w : World} {B : Nat} {A : Option Addr} {l : List Wd.Ed} (h : Rd w B A (edRow l)) {i : Nat} (hi : i < l.length) :
    ∃ b off, A = some ⟨b, off, none⟩ ∧ b < B ∧ w.cell? ⟨b, off + i * 3, none⟩ = some (.int .i64 l[i].at_) ∧ w.cell? ⟨b, off + i * 3 + 1, none⟩ = some (.bool l[i].drop) ∧ w.cell? ⟨b, off + i * 3 + 2, none⟩ = some (.int .i64 l[i].tok) := by
  obtain ⟨b, off, e, hb, hc⟩ := Rd.thing (f := edCells) (m := 3) edCells_len (by decide) h hi
  exact ⟨b, off, e, hb, hc 0 _ rfl, hc 1 _ rfl, hc 2 _ rfl⟩
end Go.Proofs.Ytckckejgocbkkaa
