/- Grammars in memory whose symbols' slices are no longer than their capacities; an argument that is one; what is behind a place of a row of symbols. -/
import Derived.Test.YtckckejgocbkkaaGOpn
import Derived.Laws.Slices
namespace Go.Proofs.Ytckckejgocbkkaa
open Go.ChangeShapes Go.WideShapes Go.RowKit Go.Deep

/-- The slice at A reads as these productions, all below block B; no slice of symbols is longer than its capacity. -/
def PrsC (w : World) (B : Nat) (A : Option Addr) (ps : List Gr.Pr) : Prop :=
  ∃ hs : List Ph, ps = hs.map Ph.pr ∧ Rd w B A (phRow hs) ∧ ∀ h ∈ hs, Rd w B h.at_ (syRow h.right) ∧ h.right.length ≤ h.cap ∧ h.cap ≤ maxLen
section
variable {w w' : World} {B B' : Nat} {A : Option Addr} {ps : List Gr.Pr}
theorem PrsC.prs (h : PrsC w B A ps) : Prs w B A ps := by
  obtain ⟨hs, e, h1, h2⟩ := h
  exact ⟨hs, e, h1, fun x hx => (h2 x hx).1⟩
theorem PrsC.nil : PrsC w B A [] := ⟨[], rfl, Rd.nil, by simp⟩
theorem PrsC.keep (h : PrsC w B A ps) (hk : ∀ A xs, Rd w B A xs → Rd w' B' A xs) : PrsC w' B' A ps := by
  obtain ⟨hs, e, h1, h2⟩ := h
  exact ⟨hs, e, hk _ _ h1, fun x hx => ⟨hk _ _ (h2 x hx).1, (h2 x hx).2⟩⟩
theorem PrsC.bl (h : PrsC w B A ps) (hB : B ≤ w.heap.size) (hb : Bl w w') : PrsC w' B A ps := h.keep fun _ _ h => h.bl hB hb
theorem PrsC.more (h : PrsC w B A ps) (hB : B ≤ B') : PrsC w B' A ps := h.keep fun _ _ h => h.more hB
theorem PrsC.alloc (h : PrsC w B A ps) (hB : B ≤ w.heap.size) (o : Obj) : PrsC (w.alloc o) B A ps := h.keep fun _ _ h => h.alloc hB o
theorem PrsC.drewN (h : PrsC w B A ps) (n : Nat) : PrsC (w.drewN n) B A ps := h
theorem PrsC.drew (h : PrsC w B A ps) : PrsC w.drew B A ps := h
theorem PrsC.at_ (h : PrsC w B A ps) {i : Nat} (hi : i < ps.length) : ∃ b off Ax c, A = some ⟨b, off, none⟩ ∧ b < B ∧ Rd w B Ax (syRow ps[i].right) ∧
    w.cell? ⟨b, off + i * 2, none⟩ = some (.int .i64 ps[i].left) ∧ w.cell? ⟨b, off + i * 2 + 1, none⟩ = some (.slice Ax ps[i].right.length c) ∧ ps[i].right.length ≤ c ∧ c ≤ maxLen := by
  obtain ⟨hs, rfl, h1, h2⟩ := h
  have hi' : i < hs.length := by simpa using hi
  obtain ⟨b, off, e, hb, c0, c1⟩ := Rd.two h1 hi'
  have := h2 _ (List.getElem_mem hi')
  refine ⟨b, off, hs[i].at_, hs[i].cap, e, hb, ?_, ?_, ?_, ?_⟩
  · simpa [Ph.pr] using this.1
  · simpa [Ph.pr] using c0
  · simpa [Ph.pr] using c1
  · simpa [Ph.pr] using this.2
end
/-- Of symbols what is behind the first k. -/
theorem Rd.sy_cut {w : World} {B : Nat} {A : Option Addr} {l : List Gr.Sy} (h : Rd w B A (syRow l)) {k cap : Nat} (hc : l.length ≤ cap) : Rd w B (if cap = k then A else A.map (·.add (k * 2))) (syRow (l.drop k)) := fun hn => by
  rw [syRow_len, List.length_drop] at hn
  obtain ⟨b, off, e, hb, hcell⟩ := h (by rw [syRow_len]; omega)
  rw [if_neg (by omega)]
  refine ⟨b, off + k * 2, ?_, hb, fun j u hu => ?_⟩
  · subst e
    simp only [Option.map_some, Addr.add]
    split
    · rename_i h0; rw [h0]; rfl
    · rfl
  · rw [Nat.add_assoc]
    refine hcell (k * 2 + j) u ?_
    have e2 : l = l.take k ++ l.drop k := (List.take_append_drop k l).symm
    rw [e2, syRow_append, List.getElem?_append_right (by rw [syRow_len, List.length_take]; omega), syRow_len, List.length_take, show k * 2 + j - min k l.length * 2 = j by omega]
    exact hu
/-- .. and the first k. -/
theorem Rd.sy_take {w : World} {B : Nat} {A : Option Addr} {l : List Gr.Sy} (h : Rd w B A (syRow l)) (k : Nat) : Rd w B A (syRow (l.take k)) := fun hn => by
  rw [syRow_len, List.length_take] at hn
  obtain ⟨b, off, e, hb, hcell⟩ := h (by rw [syRow_len]; omega)
  refine ⟨b, off, e, hb, fun j u hu => hcell j u ?_⟩
  have e2 : l = l.take k ++ l.drop k := (List.take_append_drop k l).symm
  have hj : j < (syRow (l.take k)).length := by
    rcases Nat.lt_or_ge j (syRow (l.take k)).length with h | h
    · exact h
    · rw [List.getElem?_eq_none h] at hu; cases hu
  rw [e2, syRow_append, List.getElem?_append_left hj]
  exact hu
theorem run_slice_tail {P : Program} {t e : TypeId} {size : Nat} (ht : P.underlying t = some (.slice e)) (hz : (P.info? e).map (·.size) = some size) (A : Option Addr) (len cap l : Nat) (x : Int) (hx : x = (l : Int)) (hl : l ≤ len) (w : World) :
    (Instr.slice t (.slice A len cap) (some (.int .i64 x)) none none).run P w = .ok (.slice (if cap = l then A else A.map (·.add (l * size))) (len - l) (cap - l)) w := by
  subst hx
  have ht' : P.underlying t = some (.slice (P.elem t)) := by simp [Program.elem, ht]
  have he : P.elem t = e := by simp [Program.elem, ht]
  rw [run_slice_l w t _ _ _ ht' .i64 _ (by omega) (by omega), he]
  have hs : (Go.sizeOf e).run P w = .ok size w := by
    cases hi : P.info? e with
    | none => rw [hi] at hz; cases hz
    | some i => rw [hi] at hz; injection hz with hz; rw [← hz]; simp [Go.sizeOf, run_typeInfo w hi]
  rw [hs]
  simp [Result.andThen, sliced]

section
variable {H : Type} {enc : TypeId × Value → H} {w : World} {spare : Nat → Bool} {held : Bool}
set_option maxRecDepth 100000 in
theorem open_symsC {fuel : Nat} {v : Value} {x : DataW H × List MemPlace} (h : DataW.trod enc Try.prog w 0 spare held fuel 43 [v] = some x) :
    ∃ (A : Option Addr) (l : List Gr.Sy) (c : Nat), v = .slice A l.length c ∧ Rd w w.heap.size A (syRow l) ∧ l.length ≤ c ∧ c ≤ maxLen := by
  rcases open_slice Try.underlying43 h with ⟨hcs, _⟩ | ⟨a, len', cap', m, n, D, Pl, hcs, _, hl, hm, hmm, _, hi⟩
  · injection hcs with hcs _
    subst hcs
    exact ⟨none, [], 0, rfl, Rd.nil, Nat.zero_le _, Nat.zero_le _⟩
  · injection hcs with hcs _
    subst hcs
    have h2 : Try.prog.cellsOf 48 = 2 := by kernel_rfl
    rw [h2] at hi
    have hlm : len' ≤ m := by rw [hmm]; split <;> omega
    have key : ∀ i, i < len' → ∃ x : Gr.Sy, w.cell? (a.add (i * 2)) = some (.bool x.non) ∧ w.cell? ((a.add (i * 2)).add 1) = some (.int .i64 x.n) := by
      intro i hil
      obtain ⟨cs', hc, ht⟩ := hi i (by omega)
      obtain ⟨x, rfl⟩ := open_sym ht
      obtain ⟨_, _, hat⟩ := World.cells?_some hc
      have a0 := hat 0 (by omega)
      rw [show ∀ b : Addr, b.add 0 = b from fun b => by simp [Addr.add]] at a0
      exact ⟨x, a0, hat 1 (by omega)⟩
    obtain ⟨xs, hxl, hr⟩ := rd_two key
    subst hxl
    exact ⟨some a, xs, cap', rfl, hr, hl, hm⟩

set_option maxRecDepth 100000 in
theorem open_prodC {fuel : Nat} {cs : List Value} {y : DataW H × List MemPlace} (h : DataW.trod enc Try.prog w 0 spare held fuel 45 cs = some y) :
    ∃ x : Ph, cs = [.int .i64 x.left, .slice x.at_ x.right.length x.cap] ∧ Rd w w.heap.size x.at_ (syRow x.right) ∧ x.right.length ≤ x.cap ∧ x.cap ≤ maxLen := by
  obtain ⟨xs, n, _, _, hlen, hxl, hf⟩ := DataW.trod_struct Try.underlying45 h
  have h2 : Try.prog.cellsOf 45 = 2 := by kernel_rfl
  rw [h2] at hlen
  match cs, hlen with
  | [c0, c1], _ =>
    have e4 : Try.prog.cellsOf 43 = 1 := by kernel_rfl
    have e3 : Try.prog.cellsOf 3 = 1 := by kernel_rfl
    match xs, hxl with
    | [y0, y1], _ =>
      have h0 := hf 0 _ rfl
      have h1 := hf 1 _ rfl
      simp [e3, e4] at h0 h1
      obtain ⟨m, hm, _, _⟩ := DataW.trod_int Try.underlying3 h0
      obtain ⟨A, l, c, rfl, hr, hc, hcm⟩ := open_symsC h1
      injection hm with hm _
      subst hm
      exact ⟨⟨m, l, A, c⟩, rfl, hr, hc, hcm⟩

set_option maxRecDepth 100000 in
theorem open_prodsC {fuel : Nat} {v : Value} {x : DataW H × List MemPlace} (h : DataW.trod enc Try.prog w 0 spare held fuel 22 [v] = some x) :
    ∃ (A : Option Addr) (l : List Gr.Pr) (c : Nat), v = .slice A l.length c ∧ PrsC w w.heap.size A l ∧ l.length ≤ maxLen := by
  rcases open_slice Try.underlying22 h with ⟨hcs, _⟩ | ⟨a, len', cap', m, n, D, Pl, hcs, _, hl, hm, hmm, _, hi⟩
  · injection hcs with hcs _
    subst hcs
    exact ⟨none, [], 0, rfl, PrsC.nil, Nat.zero_le _⟩
  · injection hcs with hcs _
    subst hcs
    have h2 : Try.prog.cellsOf 45 = 2 := by kernel_rfl
    rw [h2] at hi
    have hlm : len' ≤ m := by rw [hmm]; split <;> omega
    have key : ∀ i, i < len' → ∃ x : { x : Ph // Rd w w.heap.size x.at_ (syRow x.right) ∧ x.right.length ≤ x.cap ∧ x.cap ≤ maxLen }, w.cell? (a.add (i * 2)) = some (.int .i64 x.1.left) ∧ w.cell? ((a.add (i * 2)).add 1) = some (.slice x.1.at_ x.1.right.length x.1.cap) := by
      intro i hil
      obtain ⟨cs', hc, ht⟩ := hi i (by omega)
      obtain ⟨x, rfl, hr⟩ := open_prodC ht
      obtain ⟨_, _, hat⟩ := World.cells?_some hc
      have a0 := hat 0 (by omega)
      rw [show ∀ b : Addr, b.add 0 = b from fun b => by simp [Addr.add]] at a0
      exact ⟨⟨x, hr⟩, a0, hat 1 (by omega)⟩
    obtain ⟨xs, hxl, hr⟩ := rd_two key
    subst hxl
    refine ⟨some a, (xs.map Subtype.val).map Ph.pr, cap', by simp, ⟨xs.map Subtype.val, rfl, ?_, ?_⟩, by simpa using Nat.le_trans hl hm⟩
    · have e : phRow (xs.map Subtype.val) = row2 (fun x : { x : Ph // Rd w w.heap.size x.at_ (syRow x.right) ∧ x.right.length ≤ x.cap ∧ x.cap ≤ maxLen } => Value.int .i64 x.1.left) (fun x => .slice x.1.at_ x.1.right.length x.1.cap) xs := by
        unfold phRow row2
        rw [List.flatMap_map]
      rw [e]
      exact hr
    · intro x hx
      obtain ⟨y, _, rfl⟩ := List.mem_map.1 hx
      exact y.2

set_option maxRecDepth 100000 in
theorem open_gramC {cs : Array Value} {d : DataW H} {p : List MemPlace} (h : DataW.Trod enc Try.prog w 0 spare held 24 (.agg cs) d p) :
    ∃ (t n s : Int) (A : Option Addr) (c : Nat) (ps : List Gr.Pr), cs = #[.int .i64 t, .int .i64 n, .int .i64 s, .slice A ps.length c] ∧ PrsC w w.heap.size A ps ∧ ps.length ≤ maxLen := by
  obtain ⟨fuel, hf⟩ := h
  obtain ⟨xs, n, _, _, hlen, hxl, hf⟩ := DataW.trod_struct Try.underlying24 hf
  have h4 : Try.prog.cellsOf 24 = 4 := by kernel_rfl
  rw [h4] at hlen
  obtain ⟨cl⟩ := cs
  have hlen : cl.length = 4 := by simpa [Value.cells] using hlen
  match cl, hlen with
  | [c0, c1, c2, c3], _ =>
    have e3 : Try.prog.cellsOf 3 = 1 := by kernel_rfl
    have e22 : Try.prog.cellsOf 22 = 1 := by kernel_rfl
    match xs, hxl with
    | [y0, y1, y2, y3], _ =>
      have h0 := hf 0 _ rfl
      have h1 := hf 1 _ rfl
      have h2 := hf 2 _ rfl
      have h3 := hf 3 _ rfl
      simp [e3, e22, Value.cells] at h0 h1 h2 h3
      obtain ⟨t, ht, _, _⟩ := DataW.trod_int Try.underlying3 h0
      obtain ⟨m, hm, _, _⟩ := DataW.trod_int Try.underlying3 h1
      obtain ⟨s, hs, _, _⟩ := DataW.trod_int Try.underlying3 h2
      obtain ⟨A, l, c, rfl, hr, hl⟩ := open_prodsC h3
      injection ht with ht _
      injection hm with hm _
      injection hs with hs _
      subst ht hm hs
      exact ⟨t, m, s, A, c, l, rfl, hr, hl⟩
end
end Go.Proofs.Ytckckejgocbkkaa
