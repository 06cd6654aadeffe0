/- Is a symbol among symbols? Plain facts. -/
import Derived.Test.YthhgjdnbeeadhaaGMem
import Derived.Test.YthhgjdnbeeadhaaMathA
namespace Go.Proofs.Ythhgjdnbeeadhaa
open Go.RowKit

/-- Is a nonterminal among symbols? -/
def syHas (n : Int) (l : List Gr.Sy) : Bool := l.any fun s => s.non && decide (s.n = n)
theorem syHas_iff (n : Int) (l : List Gr.Sy) : syHas n l = true ↔ (⟨true, n⟩ : Gr.Sy) ∈ l := by
  unfold syHas
  rw [List.any_eq_true]
  constructor
  · rintro ⟨⟨b, m⟩, hm, hx⟩
    rw [Bool.and_eq_true, decide_eq_true_eq] at hx
    obtain ⟨h1, h2⟩ := hx
    simp only at h1 h2
    subst h1 h2
    exact hm
  · intro h
    exact ⟨_, h, by simp⟩
theorem syHas_stands (p : Gr.Pr) (n : Nat) : syHas (n : Int) p.right = Rc.stands p n := rfl
theorem sy_snoc {l : List Gr.Sy} {x : Gr.Sy} {k : Nat} (h : k < l.length) (ha : ¬ x ∈ l.take k) (hx : x ≠ l[k]) : ¬ x ∈ l.take (k + 1) := by
  rw [List.take_succ_eq_append_getElem h, List.mem_append]
  rintro (h1 | h1)
  · exact ha h1
  · simp at h1; exact hx h1
end Go.Proofs.Ythhgjdnbeeadhaa
