/- The element type of a block; a block that is new reads. -/
import Derived.Test.YtckckejgocbkkaaRoT
import Derived.Test.YtckckejgocbkkaaWMem
import Derived.Lib.OwnKind
namespace Go.Proofs.Ytckckejgocbkkaa
open Go.RowKit

/-- The element type of a block. -/
def Ty (w : World) (k : Nat) (t : TypeId) : Prop := ∃ cs fr, w.heap[k]? = some (.cells cs t fr)
section
variable {w w' : World} {k : Nat} {t t' e : TypeId}
theorem Ty.ne (h : Ty w k t) (h' : Ty w k t') (hne : t ≠ t') : False := by
  obtain ⟨cs, fr, h⟩ := h
  obtain ⟨cs', fr', h'⟩ := h'
  rw [h] at h'
  injection h' with h'
  injection h' with _ ht
  exact hne ht
theorem Bk.ty {cs : Array Value} (h : Bk w k t cs) : Ty w k t := ⟨cs, _, h⟩
theorem own_ty {base size n : Nat} {v : Value} {xs : List Value} (h : w.ownsRow base e size v n xs) (hk : v.ownBlock = some k) : Ty w k e := Go.Lib.ownsRow_kind h k hk
theorem KeepT.of_fr {S : Nat → Prop} (hf : Fr S w w') (hS : ∀ k, S k → Ty w k t → False) : KeepT t w w' := fun b cs fr hb => (hf.block b (heap_lt hb) fun hs => hS b hs ⟨cs, fr, hb⟩).trans hb
end
theorem rd_newB (w : World) (t : TypeId) (cs : Array Value) : Rd (w.alloc (.cells cs t)) (w.heap.size + 1) (some ⟨w.heap.size, 0, none⟩) cs.toList := fun _ => ⟨w.heap.size, 0, rfl, Nat.lt_succ_self _, fun j u hu => by
  rw [Nat.zero_add]
  rw [Bk.cell (Bk.new w t cs) j, ← Array.getElem?_toList]
  exact hu⟩
end Go.Proofs.Ytckckejgocbkkaa
