/- Tables of spans with their numbers written out; words that laws make of bytes. -/
import Derived.Test.YtmdepbgcgkifpaaHSpans2
namespace Go.Proofs.Ytmdepbgcgkifpaa
open Go.RowKit

theorem SPost.lit {g : Gr.Gm} {N m : Nat} {xs : List Int} {w w' : World} {e : Ending} (h : SPost g xs w e w') (hN : g.nons.toNat = N) (hm : xs.length + 1 = m) (hN0 : 0 < N) :
    ∃ (bo c B0 : Nat) (rows : List RowD) (T : Cf.Tb), e = .returned (.slice (some ⟨bo, 0, none⟩) N c) ∧ rows.length = N ∧ Tab B0 m (.slice (some ⟨bo, 0, none⟩) N c) rows T w' ∧ Cf.Sound g xs T ∧ Cf.Closed g xs T ∧ Bl w w' := by
  subst hN hm
  obtain ⟨A, c, B0, rows, T, he, hl, ht, h1, h2, h3⟩ := h
  obtain ⟨bo, co, hv, _, _⟩ := ht.own.form (by omega)
  injection hv with hv1 _ _
  subst hv1
  exact ⟨bo, c, B0, rows, T, he, hl, ht, h1, h2, h3⟩
theorem Tab.peek {B0 m N bo c n a b : Nat} {rows : List RowD} {T : Cf.Tb} {w : World} (h : Tab B0 m (.slice (some ⟨bo, 0, none⟩) N c) rows T w) (hl : rows.length = N) (hn : n < N) (ha : a < m) (hb : b < m) : ∃ r cr g, bo < w.heap.size ∧
    w.cell? ⟨bo, n, none⟩ = some (.slice (some ⟨r, 0, none⟩) m cr) ∧ r < w.heap.size ∧ w.cell? ⟨r, a, none⟩ = some (.slice (some ⟨g, 0, none⟩) m m) ∧ g < w.heap.size ∧ w.cell? ⟨g, b, none⟩ = some (.bool (T n a b)) := by
  obtain ⟨g, h1, h2, h3, h4, h5, h6, _⟩ := h.read0 (n := n) (by omega) ha hb
  exact ⟨_, _, g, h1, h2, h3, h4, h5, h6⟩
/-- The word that the law makes of bytes. -/
def mods (bs : List Nat) : List Int := ns (bs.map (· % 16))
theorem mods_len (bs : List Nat) : (mods bs).length = bs.length := by simp [mods, ns]
theorem mods_snoc {bs : List Nat} {k : Nat} (h : k < bs.length) : mods (bs.take (k + 1)) = mods (bs.take k) ++ [(bs[k] : Int) % 16] := by
  rw [List.take_succ_eq_append_getElem h]
  simp only [mods, ns, List.map_append, List.map_cons, List.map_nil]
  rfl

theorem word_int_info : (Try.prog.info? 3).map (fun i => (i.zero, i.size, i.bytes)) = some (some (.int .i64 0), 1, 8) := by kernel_rfl
end Go.Proofs.Ytmdepbgcgkifpaa
