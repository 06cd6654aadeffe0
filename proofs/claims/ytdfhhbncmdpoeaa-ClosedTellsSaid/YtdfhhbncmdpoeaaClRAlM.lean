/- What the reference asks of a derivation that is alone, and what is asked: the same. -/
import Derived.Test.YtdfhhbncmdpoeaaClLone
import Derived.Test.YtdfhhbncmdpoeaaClRTab
import Derived.Test.YtdfhhbncmdpoeaaClWhl
import Derived.Test.YtdfhhbncmdpoeaaRefN
namespace Go.Proofs.Ytdfhhbncmdpoeaa
open Go.RowKit

theorem i_nn (n : Nat) : (0 : Int) ≤ (n : Int) := Int.natCast_nonneg n
theorem i_lt {a b : Nat} (h : a < b) : (a : Int) < (b : Int) := Int.ofNat_lt.2 h
theorem i_le {a b : Nat} (h : a ≤ b) : (a : Int) ≤ (b : Int) := Int.ofNat_le.2 h
theorem i_nlt {a b : Nat} (h : ¬ a < b) : ¬ (a : Int) < (b : Int) := fun h2 => h (Int.ofNat_lt.1 h2)
theorem i_nle {a b : Nat} (h : ¬ a ≤ b) : ¬ (a : Int) ≤ (b : Int) := fun h2 => h (Int.ofNat_le.1 h2)
theorem i_suc (n : Nat) : (n : Int) < (n : Int) + 1 := by omega
theorem i_wrapc {n : Nat} (h : n ≤ 100000) : IntKind.i64.wrap (n : Int) = (n : Int) := by rw [IntKind.wrap_i64]; omega
theorem i_wrapa {n : Nat} (h : n ≤ 100000) : IntKind.i64.wrap (((n + 1 : Nat) : Int) - 1) = (n : Int) := by rw [IntKind.wrap_i64]; omega
theorem i_wrapb {n : Nat} (h : n ≤ 100000) : IntKind.i64.wrap ((n : Int) + 1 - 1) = (n : Int) := by rw [IntKind.wrap_i64]; omega
theorem i_wrapd {n : Nat} (h : n ≤ 100000) : wrap64 (n : Int) = (n : Int) := by unfold wrap64; omega
theorem i_wraps {n : Nat} (h : n ≤ 100000) : IntKind.i64.wrap ((n : Int) + 1) = (n : Int) + 1 := by rw [IntKind.wrap_i64]; omega
theorem i_wrapt {n : Nat} (h : n ≤ 100000) : wrap64 ((n : Int) + 1) = (n : Int) + 1 := by unfold wrap64; omega
theorem i_sub {n : Nat} {m : Int} (h : (n : Int) + 1 ≤ m) : (n : Int) < m := by omega
theorem whole_else {g : Gr.Gm} {m : Nat} {L : List (List Ix)} (h : keepB g m L = true) {e x : Nat} (he : e < L.length) {non : Int} : WholeP g.prods (rowI L e) non (x : Int) (-1) ↔ (non, x, e) ∈ Ch.endL g (putS (doneS L L.length 0)) := by
  rw [endL_iff]
  constructor
  · rintro ⟨y, hy, p, hp, hd, hl, hf, _⟩
    exact ⟨y, p, (mem_row h).2 ⟨he, hy⟩, hp, hd, hl.symm, (Int.ofNat.inj hf).symm⟩
  · rintro ⟨y, p, hy, hp, hd, hl, hf⟩
    exact ⟨y, ((mem_row h).1 hy).2, p, hp, hd, hl.symm, by rw [← hf], by omega⟩
theorem whole_anot {g : Gr.Gm} {m : Nat} {L : List (List Ix)} (h : keepB g m L = true) {e f i : Nat} (he : e < L.length) {p : Gr.Pr} (hp : g.prods[i]? = some p) : WholeP g.prods (rowI L e) p.left (f : Int) (i : Int) ↔ AnotherP g (putS (doneS L L.length 0)) i f e := by
  constructor
  · rintro ⟨y, hy, q, hq, hd, hl, hf, hn⟩
    refine ⟨p, y.prod, q, hp, hq, hl, fun e9 => hn (by rw [e9]), ?_⟩
    have hf2 : y.frm = f := Int.ofNat.inj hf
    rw [← hd, ← hf2]
    exact (mem_row h).2 ⟨he, hy⟩
  · rintro ⟨p2, j, q, hp2, hq, hl, hn, hP⟩
    rw [hp] at hp2
    injection hp2 with hp2
    subst hp2
    exact ⟨_, ((mem_row h).1 hP).2, q, hq, rfl, hl, rfl, fun e9 => hn (Int.ofNat.inj e9)⟩
/-- A node of a derivation of a word. -/
structure NodeG (ps : List Gr.Pr) (m i : Nat) (row : List Nat) : Prop where
  prod : i < ps.length
  len : row.length = (ps[i]'prod).right.length + 1
  le : ∀ x ∈ row, x ≤ m
  tok : ∀ k s, (ps[i]'prod).right[k]? = some s → s.non = false → ∀ fd fe, row[k]? = some fd → row[k + 1]? = some fe → fe = fd + 1
theorem nodes_good {ps : List Gr.Pr} {w : List Int} {m : List Nat} {r : List Gr.Sy} {a b : Nat} {nds : List Al.No} {pl : List Nat} (hd : Al.Nd ps w m r a b nds pl) (hb : b ≤ w.length) : ∀ z ∈ nds.map ndOf, ∃ (i : Nat) (row : List Nat), z = ((i : Int), ns row) ∧ NodeG ps w.length i row := by
  intro z hz
  obtain ⟨x, hx, rfl⟩ := List.mem_map.1 hz
  obtain ⟨p, pre, lx, post, nsx, hp, _, h3, _⟩ := hd.within x hx
  have hi := Ch.lt_of_get hp
  have e : ps[x.prod]'hi = p := by rw [List.getElem?_eq_getElem hi] at hp; injection hp
  refine ⟨x.prod, x.at_ ++ [x.stop], rfl, hi, ?_, fun y hy => hd.bound_no hb x hx y hy, fun k s hk hs fd fe h1 h2 => ?_⟩
  · rw [List.length_append, List.length_singleton, h3.places.1, e]
  · rw [e] at hk
    obtain ⟨d, h4, h5⟩ := al_tok h3 hk hs h2
    rw [h1] at h4
    injection h4 with h4
    omega
theorem row_cells {w : World} {B : Nat} {A : Option Addr} {row : List Nat} (h : Rd w B A (ins (ns row))) (hne : 0 < row.length) : ∃ b off, A = some ⟨b, off, none⟩ ∧ b < B ∧ ∀ (k x : Nat), row[k]? = some x → w.cell? ⟨b, off + k, none⟩ = some (.int .i64 (x : Int)) := by
  obtain ⟨b, off, e, hb, hc⟩ := h (by rw [ins_len, ns_len]; exact hne)
  refine ⟨b, off, e, hb, fun k x hk => hc k _ ?_⟩
  unfold ins ns
  rw [List.getElem?_map, List.getElem?_map, hk]
  rfl
theorem nd_at {w : World} {B : Nat} {A : Option Addr} {nd : List (Int × List Int)} (h : NRd w B A nd) {j : Nat} (hj : j < nd.length) {i : Nat} {row : List Nat} (e : nd[j] = ((i : Int), ns row)) (hne : 0 < row.length) :
    ∃ bn on br orr cr, A = some ⟨bn, on, none⟩ ∧ bn < B ∧ br < B ∧ w.cell? ⟨bn, on + j * 2, none⟩ = some (.int .i64 (i : Int)) ∧ w.cell? ⟨bn, on + j * 2 + 1, none⟩ = some (.slice (some ⟨br, orr, none⟩) row.length cr) ∧ ∀ (k x : Nat), row[k]? = some x → w.cell? ⟨br, orr + k, none⟩ = some (.int .i64 (x : Int)) := by
  obtain ⟨bn, on, Ar, cr, hA, hb, c0, c1, hr⟩ := h j hj
  have e2 : nd.getD j (0, []) = ((i : Int), ns row) := by rw [List.getD_eq_getElem?_getD, List.getElem?_eq_getElem hj, e]; rfl
  rw [e2] at c0 c1 hr
  obtain ⟨br, orr, rfl, hbr, hc⟩ := row_cells hr hne
  have c1 : w.cell? ⟨bn, on + j * 2 + 1, none⟩ = some (.slice (some ⟨br, orr, none⟩) (ns row).length cr) := c1
  rw [ns_len] at c1
  exact ⟨bn, on, br, orr, cr, hA, hb, hbr, c0, c1, hc⟩
/-- What the reference's Nodes tells of a derivation of a word. -/
theorem nodes_told {g : Gr.Gm} {xs l : List Int} (hr : Dv.replayOf (okB g) g l = (xs, 0)) {nd : List (Int × List Int)} (h : ∃ (m : List Nat) (wd : List Int) (b : Nat) (nds : List Al.No) (pl : List Nat), l = Dv.ints m ∧ Al.Nd g.prods wd m [⟨true, g.start⟩] 0 b nds pl ∧ nd = nds.map ndOf ∧ ∀ x ∈ nds, x.at_.length ≤ 8) :
    nd.length = l.length ∧ Dv.NodesOf g.prods g.start l nd ∧ (∀ z ∈ nd, ∃ (i : Nat) (row : List Nat), z = ((i : Int), ns row) ∧ NodeG g.prods xs.length i row) ∧ ∀ nd2, Dv.NodesOf g.prods g.start l nd2 → nd2 = nd := by
  obtain ⟨m, wd, b, nds, pl, hl, hd, rfl, _⟩ := h
  obtain ⟨m', nds', pl', hl', hd'⟩ := nds_of hr
  have e1 : m = m' := ns_inj (hl.symm.trans hl')
  subst e1
  have e2 := (al_two hd hd' ⟨[], [], rfl⟩).2.2.1
  subst e2
  have e3 : (nds.map ndOf).length = l.length := by
    rw [hl', List.length_map]
    unfold Dv.ints
    rw [List.length_map, ← Dv.Nd.prods hd', List.length_map]
  exact ⟨e3, alone_nodes hl' hd', nodes_good hd' (Nat.le_refl _), fun nd2 h2 => nodes_one hl' hd' h2 (alone_nodes hl' hd')⟩
end Go.Proofs.Ytdfhhbncmdpoeaa
