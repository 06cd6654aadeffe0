/- What comes of a grammar, or begins a word that does: the reference's In, of the grammar and of its wild one. -/
import Derived.Test.YtbncgjccmadkbaaPlainT
import Derived.Test.YtbncgjccmadkbaaWordS
import Derived.Test.YtbncgjccmadkbaaSpansS
import Derived.Test.YtbncgjccmadkbaaPlainS
namespace Go.Proofs.Ytbncgjccmadkbaa
open Go.RowKit

/-- The production of a grammar with nothing but living nonterminals. -/
theorem fit_pos {g : Gr.Gm} (hok : Gr.Ok g) (hv : Wi.Lives g) : 0 < g.prods.length := by
  have h1 := hok.2.2.2.2.1
  have h2 := hok.2.2.2.2.2.1
  obtain ⟨w, hw⟩ := hv g.start h1 h2
  obtain ⟨p, _, _, _, hp, _⟩ := hw.non_inv rfl
  exact List.length_pos_of_mem hp
theorem in8_any (t n s : Int) (A : Option Addr) (len c : Nat) (ps : List Gr.Pr) (Aw : Option Addr) (lw cw : Nat) (xs : List Int) (w : World) (B : Nat) (hlen : len = ps.length) (hr : Prs w B A ps)
    (hlw : lw = xs.length) (hrw : Rd w B Aw (ins xs)) (hB : B ≤ w.heap.size) (hf : fitB ⟨t, n, s, ps⟩ xs = true) :
    Calls Try.prog 16 #[.agg #[.int .i64 t, .int .i64 n, .int .i64 s, .slice A len c], .slice Aw lw cw] w fun e w' => e = .returned (.bool (Ld.mayB 0 ⟨t, n, s, ps⟩ xs [⟨true, s⟩] 0)) ∧ Bl w w' := by
  obtain ⟨hok, hv, h24⟩ := fit_good hf
  have ho := (okB_iff _).2 hok
  obtain ⟨n1, n2, n3⟩ := ok_nons' ho
  have h5 : 0 ≤ s := hok.2.2.2.2.1
  have h6 : s < n := hok.2.2.2.2.2.1
  obtain ⟨N, rfl⟩ : ∃ N : Nat, n = (N : Int) := ⟨n.toNat, by omega⟩
  obtain ⟨st, rfl⟩ : ∃ st : Nat, s = (st : Int) := ⟨s.toNat, by omega⟩
  have h := in_gen t N st A len c ps Aw lw cw xs w B hlen ⟨by omega, by omega, by omega⟩ (by omega) (fun _ hp => ok_syms' ho hp) hr hlw (by omega) hrw hB
  rwa [show Sp.comB ⟨t, (N : Int), (st : Int), ps⟩ st xs = Ld.mayB 0 ⟨t, (N : Int), (st : Int), ps⟩ xs [⟨true, (st : Int)⟩] 0 by
    rw [Bool.eq_iff_iff, Sp.comB_iff, Ld.mayB_iff, Ld.may_one (by decide), List.drop_zero]] at h
theorem inw_any (t n s : Int) (A : Option Addr) (c : Nat) (ps : List Gr.Pr) (Aw : Option Addr) (lw cw : Nat) (xs : List Int) (w : World) (B : Nat) (hr : Prs w B A (Wi.wild ⟨t, n, s, ps⟩).prods)
    (hlw : lw = xs.length) (hrw : Rd w B Aw (ins xs)) (hB : B ≤ w.heap.size) (hf : fitB ⟨t, n, s, ps⟩ xs = true) :
    Calls Try.prog 16 #[.agg #[.int .i64 t, .int .i64 (2 * n), .int .i64 (n + s), .slice A (Wi.wild ⟨t, n, s, ps⟩).prods.length c], .slice Aw lw cw] w fun e w' => e = .returned (.bool (Ld.mayB 2 ⟨t, n, s, ps⟩ xs [⟨true, s⟩] 0)) ∧ Bl w w' := by
  obtain ⟨hok, hv, h24⟩ := fit_good hf
  have ho := (okB_iff _).2 hok
  obtain ⟨n1, n2, n3⟩ := ok_nons' ho
  have h5 : 0 ≤ s := hok.2.2.2.2.1
  have h6 : s < n := hok.2.2.2.2.2.1
  obtain ⟨N, rfl⟩ : ∃ N : Nat, n = (N : Int) := ⟨n.toNat, by omega⟩
  obtain ⟨st, rfl⟩ : ∃ st : Nat, s = (st : Int) := ⟨s.toNat, by omega⟩
  have e1 : ((2 * N : Nat) : Int) = 2 * (N : Int) := by omega
  have e2 : ((N + st : Nat) : Int) = (N : Int) + (st : Int) := by omega
  have h := in_gen t (2 * N) (N + st) A _ c (Wi.wild ⟨t, (N : Int), (st : Int), ps⟩).prods Aw lw cw xs w B rfl ⟨by omega, by omega, by have := Wi.wild_len hok; omega⟩ (by omega) (fun p hp => by rw [e1]; exact Wi.wild_small hok hp) hr hlw (by omega) hrw hB
  rw [e1, e2] at h
  rwa [show Sp.comB ⟨t, 2 * (N : Int), (N : Int) + (st : Int), (Wi.wild ⟨t, (N : Int), (st : Int), ps⟩).prods⟩ (N + st) xs = Ld.mayB 2 ⟨t, (N : Int), (st : Int), ps⟩ xs [⟨true, (st : Int)⟩] 0 by
    rw [Bool.eq_iff_iff, Sp.comB_iff, Ld.mayB_iff, Ld.may_two, List.drop_zero, e2]
    exact Wi.high_iff hok hv h5 h6] at h
end Go.Proofs.Ytbncgjccmadkbaa
