/- Closed sets have all items of a word: what isn't next at the last of them may not stand there. -/
import Derived.Test.YtdfhhbncmdpoeaaClCls
import Derived.Test.YtdfhhbncmdpoeaaChBtI
namespace Go.Proofs.Ytdfhhbncmdpoeaa
open Go.RowKit
open Cf (Cm)

theorem sym_at {g : Gr.Gm} {x : Ch.Im} {p : Gr.Pr} {s : Gr.Sy} (hp : g.prods[x.prod]? = some p) (hs : p.right[x.dot]? = some s) : Ch.symAt g x = some s := by
  unfold Ch.symAt
  rw [hp]
  exact hs
theorem wait_of {g : Gr.Gm} {a : Nat} {x : Ch.Im} {p : Gr.Pr} {s : Gr.Sy} (hp : g.prods[x.prod]? = some p) (hs : p.right[x.dot]? = some s) (hn : s.non = true) : Ch.waitOf g (a, x) = some (s.n, a) := by
  unfold Ch.waitOf
  rw [sym_at hp hs]
  exact if_pos hn
theorem beg_mem {g : Gr.Gm} {j : Nat} {q : Gr.Pr} (hq : g.prods[j]? = some q) (n : Int) (hl : q.left = n) (a : Nat) : (a, (⟨j, 0, a⟩ : Ch.Im)) ∈ begL g (n, a) := by
  unfold begL
  refine List.mem_map.2 ⟨j, ?_, rfl⟩
  have hj := Ch.lt_of_get hq
  unfold ofK
  rw [List.mem_filter, List.mem_range]
  refine ⟨hj, ?_⟩
  rw [hq]
  exact decide_eq_true hl
theorem mem_wait {g : Gr.Gm} {P : List St4} {n : Int} {f : Nat} {y : Ch.Im} (hy : (f, y) ∈ P) {q : Gr.Pr} {s : Gr.Sy} (hq : g.prods[y.prod]? = some q) (hs : q.right[y.dot]? = some s) (hn : s.non = true) (he : s.n = n) : y ∈ Ch.waitL g P (n, f) := by
  unfold Ch.waitL
  refine List.mem_map.2 ⟨(f, y), List.mem_filter.2 ⟨hy, ?_⟩, rfl⟩
  rw [wait_of hq hs hn, he]
  exact decide_eq_true rfl
theorem mem_end {g : Gr.Gm} {P : List St4} {a : Nat} {x : Ch.Im} (hx : (a, x) ∈ P) {p : Gr.Pr} (hp : g.prods[x.prod]? = some p) (hd : x.dot = p.right.length) : (p.left, x.frm, a) ∈ Ch.endL g P := by
  unfold Ch.endL
  refine List.mem_filterMap.2 ⟨(a, x), hx, ?_⟩
  unfold Ch.endOf
  rw [hp]
  exact if_pos hd
theorem closed_has {g : Gr.Gm} {xs : List Int} {L : List (List Ix)} (h : ClosedP g xs L) : Ch.Has g xs (L.length - 1) (fun a x => (a, x) ∈ putS (doneS L L.length 0)) := by
  obtain ⟨h1, h2, h3, h4⟩ := h.2
  refine ⟨fun i p hp hl => h1 _ (beg_mem hp _ hl 0), fun a x p s j q ha hx hp hs hn hq hl => h2 _ ⟨(s.n, a), ?_, beg_mem hq _ hl a⟩, fun a x p s ha hx hp hs hn hw => h3 _ ⟨(a, x), hx, s, sym_at hp hs, hn, by show a < L.length - 1; omega, hw, rfl⟩, fun a x y p q s ha hx hf hp hd hy hq hs hn he => h4 _ ⟨_, mem_end hx hp hd, y, mem_wait hy hq hs hn he, rfl⟩⟩
  have hw : x ∈ Ch.waitL g (putS (doneS L L.length 0)) (s.n, a) := mem_wait hx hp hs hn rfl
  intro e
  rw [e] at hw
  cases hw
theorem closed_all {g : Gr.Gm} {xs : List Int} {L : List (List Ix)} (h : ClosedP g xs L) {a : Nat} {x : Ch.Im} (hi : Ch.It g xs a x) (ha : a ≤ L.length - 1) : ∃ l, L[a]? = some l ∧ x.ix ∈ l :=
  (kept_all h.1).1 (hi.least (closed_has h) ha)
section
variable {g : Gr.Gm} {xs : List Int} {L : List (List Ix)} {l : List Ix} {k : Nat}
theorem closed_bit (h : ClosedP g xs L) (hk : k ≤ L.length - 1) (hl : L[k]? = some l) {x : Ch.Im} (hi : Ch.It g xs k x) {t : Nat} (ht : (bitN g x.ix).testBit t = true) : (nxtN g l).testBit t = true := by
  obtain ⟨l2, hl2, hx⟩ := closed_all h hi hk
  rw [hl] at hl2
  injection hl2 with hl2
  subst hl2
  unfold nxtN
  rw [if_pos ((okB_iff g).2 (keepB_ok h.1).1), nextN_bit, List.any_eq_true]
  exact ⟨_, hx, ht⟩
/-- What goes on behind the last of closed sets is next there. -/
theorem closed_next (h : ClosedP g xs L) (hl : L[k]? = some l) (hkx : k ≤ xs.length) {t : Nat} {v : List Int} (hc : Cm g [⟨true, g.start⟩] (xs.take k ++ (t : Int) :: v)) : (nxtN g l).testBit t = true := by
  have hk : k ≤ L.length - 1 := by have := Ch.lt_of_get hl; omega
  obtain ⟨x, p, s, hi, hp, hs, hn, he⟩ := Ch.next_of hkx hc
  exact closed_bit h hk hl hi ((bitN_is (keepB_ok h.1).1 hp (Nat.le_of_lt (Ch.lt_of_get hs)) t).2 (.inl ⟨s, hs, hn, he⟩))
theorem closed_end (h : ClosedP g xs L) (hl : L[k]? = some l) (hkx : k ≤ xs.length) (hc : Cm g [⟨true, g.start⟩] (xs.take k)) : (nxtN g l).testBit 16 = true := by
  have hk : k ≤ L.length - 1 := by have := Ch.lt_of_get hl; omega
  obtain ⟨x, p, hi, hp, hd, he, hf⟩ := (Ch.end_iff hkx).2 hc
  exact closed_bit h hk hl hi ((bitN_is (keepB_ok h.1).1 hp (Nat.le_of_eq hd) 16).2 (.inr ⟨hd, he, hf, rfl⟩))
/-- The token that stands behind the last of closed sets is next there, if the word comes. -/
theorem closed_tok (h : ClosedP g xs L) (hl : L[k]? = some l) (hk : k < xs.length) (h0 : 0 ≤ xs[k]) (hc : Cm g [⟨true, g.start⟩] xs) : (nxtN g l).testBit xs[k].toNat = true := by
  refine closed_next h hl (Nat.le_of_lt hk) (v := xs.drop (k + 1)) ?_
  have e : ((xs[k].toNat : Nat) : Int) = xs[k] := by omega
  rw [e, List.getElem_cons_drop, List.take_append_drop]
  exact hc
end
end Go.Proofs.Ytdfhhbncmdpoeaa
